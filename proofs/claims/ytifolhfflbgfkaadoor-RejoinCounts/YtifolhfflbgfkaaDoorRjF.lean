/- The program's Number whole; the document's. -/
import Derived.Test.YtifolhfflbgfkaaDoorRjE
namespace Go.Proofs.YtifolhfflbgfkaaDoor
open Go.RowKit Go.Sort

theorem hid {P : Prop} (h : P) : Hid P := h
theorem pre_iff (l : List UInt8) : Lib.hasPrefix l [95] = true ↔ l[0]? = some 95 := by
  cases l with
  | nil => exact ⟨fun h => absurd h (by decide), fun h => absurd h (by decide)⟩
  | cons a t =>
    show ((95 == a) && ([] : List UInt8).isPrefixOf t) = true ↔ some a = some 95
    rw [Bool.and_eq_true, beq_iff_eq, Option.some.injEq]
    exact ⟨fun h => h.1.symm, fun h => ⟨h.symm, by cases t <;> rfl⟩⟩

theorem pnum_any (s : ByteArray) (hz : s.size ≤ 9223372036854775807) (w : World) (hs : Std w) :
    Calls Tryd.prog 6 #[.string s] w fun e w' => e = .returned (numV (numP s.data.toList)) ∧ Below w.heap.size w w' := by
  have hsz : s.data.toList.length = s.size := by rw [Array.length_toList]; rfl
  by_cases hp : Lib.hasPrefix s.data.toList [95] = true
  · have hp2 := (pre_iff _).mp hp
    by_cases hl : s.size ≤ 12
    · have hD := trim_of hp
      have hdl : (s.data.toList.drop 1).length ≤ 11 := by rw [List.length_drop, hsz]; omega
      have hN : numP s.data.toList = match Lib.atoi (s.data.toList.drop 1) with
          | none => none
          | some n => if nameL n = s.data.toList then some n else none := by
        unfold numP; rw [if_neg (by rw [hsz]; exact fun h => h.elim (fun x => x hp2) (by omega))]
        rfl
      cases ha : Lib.atoi (s.data.toList.drop 1) with
      | none =>
        rw [show numP s.data.toList = none by rw [hN, ha]]
        exact pnum_err s hp hl _ hD hdl ha w hs
      | some n =>
        rw [ha] at hN
        exact pnum_ok s hp hl _ hD hdl n ha _ (fun h => by rw [hN]; exact if_pos h) (fun h => by rw [hN]; exact if_neg h) w hs
    · rw [show numP s.data.toList = none by unfold numP; rw [if_pos (.inr (by rw [hsz]; omega))]]
      exact pnum_no2 s hz hp (by omega) w
  · have hp2 : s.data.toList[0]? ≠ some 95 := fun h => hp ((pre_iff _).mpr h)
    rw [show numP s.data.toList = none by unfold numP; rw [if_pos (.inl hp2)]]
    exact pnum_no1 s (by simpa using hp) w

set_option maxRecDepth 100000 in
set_option maxHeartbeats 2000000 in
theorem rnum_loop (s : ByteArray) (h2 : 2 ≤ s.size) (h12 : s.size ≤ 12) (c0 : ((s[0]'(by omega)).toNat : Int) = 95) (c1 : ((s[1]'(by omega)).toNat : Int) ≠ 48) (o : Option Nat) (ho : Lib.decFrom 0 (s.data.toList.drop 1) = o) (w : World) :
    Calls Tryd.prog 8 #[.string s] w fun e w' => e = .returned (numV (o.map fun (u : Nat) => (u : Int))) ∧ w' = w := by
  have d0 : (((s[0]'(by omega)).toNat : Int) == 95) = true := by simp [c0]
  have d1 : (((s[1]'(by omega)).toNat : Int) == 48) = false := by simp [c1]
  have k0 : ¬ (s.size : Int) < 2 := by omega
  have k1 : ¬ (12 : Int) < (s.size : Int) := by omega
  go_enter Tryd.func8, Tryd.ntmps8
  go_wp2_with fail
  have HO : Hid (Lib.decFrom 0 (s.data.toList.drop 1) = o) := hid ho
  have hsz : s.data.toList.length = s.size := by rw [Array.length_toList]; rfl
  have HZ := hid hsz
  clear ho d0 d1 c0 c1 hsz
  go_loop [4, 5] (fun nv iv => ∃ (j acc : Nat), 1 ≤ j ∧ j ≤ s.size ∧ iv = .int .i64 j ∧ nv = .int .i64 acc ∧ Hid (Lib.decFrom acc (s.data.toList.drop j) = o) ∧ acc < 10 ^ (j - 1)) (fun _ iv => s.size - (intOf iv).toNat)
  case atStart => exact ⟨1, 0, by omega, by omega, rfl, rfl, HO, by decide⟩
  case round =>
    obtain ⟨j, acc, hj0, hj, rfl, rfl, HF, hacc⟩ := hrel
    by_cases hlt : j < s.size
    · have hkl : (j : Int) < (s.size : Int) := by omega
      have hk0' : (0 : Int) ≤ (j : Int) := by omega
      have hdr : s.data.toList.drop j = s[j] :: s.data.toList.drop (j + 1) := List.drop_eq_getElem_cons (by rw [HZ.out]; exact hlt)
      have hf := HF.out
      rw [hdr] at hf
      have hP : (10 : Nat) ^ (j - 1) ≤ 10 ^ 11 := Nat.pow_le_pow_right (by omega) (by omega)
      have e : (10 : Nat) ^ 11 = 100000000000 := by decide
      have hP2 : (10 : Nat) ^ j = 10 ^ (j - 1) * 10 := by rw [← Nat.pow_succ]; congr 1; omega
      obtain ⟨b, hb⟩ : ∃ b, s[j] = b := ⟨_, rfl⟩
      have hb2 : (s[j]'hlt).toNat = b.toNat := by rw [hb]
      rw [hb] at hf
      by_cases hd : 48 ≤ b.toNat ∧ b.toNat ≤ 57
      · have e1 : IntKind.u8.wrap ((b.toNat : Int) - 48) = (b.toNat : Int) - 48 := by rw [IntKind.wrap_u8']; omega
        have e2 : IntKind.i64.wrap (10 * (acc : Int)) = 10 * (acc : Int) := IntWalk.i64_in _ (by constructor <;> omega)
        have e3 : IntKind.i64.wrap ((b.toNat : Int) - 48) = (b.toNat : Int) - 48 := IntWalk.i64_in _ (by constructor <;> omega)
        have e4 : IntKind.i64.wrap (10 * (acc : Int) + ((b.toNat : Int) - 48)) = 10 * (acc : Int) + ((b.toNat : Int) - 48) := IntWalk.i64_in _ (by constructor <;> omega)
        have HG : Hid (Lib.decFrom (acc * 10 + (b.toNat - 48)) (s.data.toList.drop (j + 1)) = o ∧ acc * 10 + (b.toNat - 48) < 10 ^ (j + 1 - 1) ∧ 10 * (acc : Int) + ((b.toNat : Int) - 48) = ((acc * 10 + (b.toNat - 48) : Nat) : Int)) := by
          refine hid ⟨?_, ?_, by omega⟩
          · simp only [Lib.decFrom, Lib.digitVal, if_pos hd] at hf; exact hf
          · rw [Nat.add_sub_cancel, hP2]; omega
        have q1 : ¬ (b.toNat : Int) < 48 := by omega
        have q2 : ¬ (57 : Int) < (b.toNat : Int) := by omega
        clear hf hP hP2 hacc hdr HF HO
        go_wp2_with fail
        exact ⟨⟨j + 1, _, by omega, by omega, rfl, by rw [HG.out.2.2], hid HG.out.1, HG.out.2.1⟩, by show s.size - ((j : Int) + 1).toNat < s.size - ((j : Int)).toNat; omega⟩
      · have hno : o = none := by
          rw [← hf]; simp only [Lib.decFrom, Lib.digitVal, if_neg hd]
        subst hno
        clear hf hP hP2 hacc hdr HF HO
        go_wp2_with fail
        all_goals go_ret2
        all_goals exact ⟨rfl, rfl⟩
    · have hje : j = s.size := by omega
      subst hje
      have hf : o = some acc := by
        rw [← HF.out, List.drop_eq_nil_of_le (by rw [HZ.out]; exact Nat.le_refl _)]; rfl
      subst hf
      clear HF HO
      go_wp2_with fail
      go_ret2
      exact ⟨rfl, rfl⟩

set_option maxRecDepth 100000 in
set_option maxHeartbeats 2000000 in
theorem rnum_size (s : ByteArray) (h : s.size < 2 ∨ 12 < s.size) (w : World) :
    Calls Tryd.prog 8 #[.string s] w fun e w' => e = .returned (numV none) ∧ w' = w := by
  rcases h with h | h
  · have k0 : (s.size : Int) < 2 := by omega
    go_enter Tryd.func8, Tryd.ntmps8
    go_wp2_with fail
    go_ret2
    exact ⟨rfl, rfl⟩
  · have k0 : ¬ (s.size : Int) < 2 := by omega
    have k1 : (12 : Int) < (s.size : Int) := by omega
    go_enter Tryd.func8, Tryd.ntmps8
    go_wp2_with fail
    go_ret2
    exact ⟨rfl, rfl⟩

set_option maxRecDepth 100000 in
set_option maxHeartbeats 2000000 in
theorem rnum_head (s : ByteArray) (h2 : 2 ≤ s.size) (h12 : s.size ≤ 12) (h : ((s[0]'(by omega)).toNat : Int) ≠ 95 ∨ ((s[0]'(by omega)).toNat : Int) = 95 ∧ ((s[1]'(by omega)).toNat : Int) = 48) (w : World) :
    Calls Tryd.prog 8 #[.string s] w fun e w' => e = .returned (numV none) ∧ w' = w := by
  have k0 : ¬ (s.size : Int) < 2 := by omega
  have k1 : ¬ (12 : Int) < (s.size : Int) := by omega
  rcases h with h | ⟨h, h'⟩
  · have d0 : (((s[0]'(by omega)).toNat : Int) == 95) = false := by simp [h]
    go_enter Tryd.func8, Tryd.ntmps8
    go_wp2_with fail
    go_ret2
    exact ⟨rfl, rfl⟩
  · have d0 : (((s[0]'(by omega)).toNat : Int) == 95) = true := by simp [h]
    have d1 : (((s[1]'(by omega)).toNat : Int) == 48) = true := by simp [h']
    go_enter Tryd.func8, Tryd.ntmps8
    go_wp2_with fail
    go_ret2
    exact ⟨rfl, rfl⟩

theorem byte_at (s : ByteArray) (i : Nat) (h : i < s.size) (c : Nat) (hc : c < 256) : s.data.toList[i]? = some (UInt8.ofNat c) ↔ ((s[i]'h).toNat : Int) = (c : Int) := by
  have h1 : s.data.toList[i]? = some (s[i]'h) := by
    rw [List.getElem?_eq_getElem (by rw [Array.length_toList]; exact h)]; rfl
  rw [h1, Option.some.injEq, ← UInt8.toNat_inj, UInt8.toNat_ofNat', Nat.mod_eq_of_lt hc]
  omega

theorem rnum_any (s : ByteArray) (w : World) :
    Calls Tryd.prog 8 #[.string s] w fun e w' => e = .returned (numV ((numL s.data.toList).map fun (u : Nat) => (u : Int))) ∧ w' = w := by
  have hsz : s.data.toList.length = s.size := by rw [Array.length_toList]; rfl
  by_cases h2 : s.size < 2 ∨ 12 < s.size
  · rw [show numL s.data.toList = none by unfold numL; rw [if_pos (by rw [hsz]; omega)]]
    exact rnum_size s h2 w
  · have b0 := byte_at s 0 (by omega) 95 (by omega)
    have b1 := byte_at s 1 (by omega) 48 (by omega)
    by_cases h : ((s[0]'(by omega)).toNat : Int) ≠ 95 ∨ ((s[0]'(by omega)).toNat : Int) = 95 ∧ ((s[1]'(by omega)).toNat : Int) = 48
    · rw [show numL s.data.toList = none by
        unfold numL
        rw [if_pos]
        rcases h with h | ⟨-, h⟩
        · exact .inr (.inr (.inl fun x => h (b0.mp x)))
        · exact .inr (.inr (.inr (b1.mpr h)))]
      exact rnum_head s (by omega) (by omega) h w
    · have c0 : ((s[0]'(by omega)).toNat : Int) = 95 := Classical.byContradiction fun x => h (.inl x)
      have c1 : ((s[1]'(by omega)).toNat : Int) ≠ 48 := fun x => h (.inr ⟨c0, x⟩)
      refine rnum_loop s (by omega) (by omega) c0 c1 _ ?_ w
      unfold numL
      rw [if_neg]
      rw [hsz]
      rintro (x | x | x | x)
      · omega
      · omega
      · exact x (b0.mpr c0)
      · exact c1 (b1.mp x)
end Go.Proofs.YtifolhfflbgfkaaDoor
