/- The document's Solves; rows that came in, with their room. -/
import Derived.Test.YtbdkogccjnmfoaaLkE
import Derived.Test.YtbdkogccjnmfoaaLjC
import Derived.Test.YtbdkogccjnmfoaaLiY
namespace Go.Proofs.Ytbdkogccjnmfoaa
open Go.ChangeShapes Go.WideShapes Go.ChangeAt Go.RowKit Go.Shelf

theorem sl_from (b o n c k : Nat) (hk : k ≤ n) (hn : n ≤ c) (hc : c ≠ k) (w : World) : (Instr.sliceAt 27 (.slice (some ⟨b, o, none⟩) n c) (some (.int .i64 (k : Int))) none none).run Try.prog w = .ok (.slice (some ⟨b, o + k, none⟩) (n - k) (c - k)) w := by
  have e1 : Try.prog.elem 27 = 3 := by kernel_rfl
  have hs : (sizeOf 3).run Try.prog w = .ok 1 w := Try.sizeOf3 w
  rw [run_sliceAt_slice w 27 _ _ _ _ (by rw [e1]; exact Try.underlying27)]
  have h0 : (0 : Int) ≤ (k : Int) := by omega
  have h1 : (k : Int) ≤ (n : Int) := by omega
  have h2 : (n : Int) ≤ (c : Int) := by omega
  go_simp
theorem sl_end (a : Option Addr) (k : Nat) (w : World) : (Instr.sliceAt 27 (.slice a k k) (some (.int .i64 (k : Int))) none none).run Try.prog w = .ok (.slice a 0 0) w := by
  have e1 : Try.prog.elem 27 = 3 := by kernel_rfl
  have hs : (sizeOf 3).run Try.prog w = .ok 1 w := Try.sizeOf3 w
  cases a with
  | none =>
    rw [run_sliceAt_slice w 27 _ _ _ _ (by rw [e1]; exact Try.underlying27)]
    have h0 : (0 : Int) ≤ (k : Int) := by omega
    have h1 : (k : Int) ≤ (k : Int) := by omega
    go_simp
  | some a =>
    rw [run_sliceAt_slice w 27 _ _ _ _ (by rw [e1]; exact Try.underlying27)]
    have h0 : (0 : Int) ≤ (k : Int) := by omega
    have h1 : (k : Int) ≤ (k : Int) := by omega
    go_simp
theorem sl_to (a : Option Addr) (n c k : Nat) (hk : k ≤ n) (hn : n ≤ c) (w : World) : (Instr.sliceAt 27 (.slice a n c) none (some (.int .i64 (k : Int))) none).run Try.prog w = .ok (.slice a k c) w := by
  have e1 : Try.prog.elem 27 = 3 := by kernel_rfl
  have hs : (sizeOf 3).run Try.prog w = .ok 1 w := Try.sizeOf3 w
  cases a with
  | none =>
    rw [run_sliceAt_slice w 27 _ _ _ _ (by rw [e1]; exact Try.underlying27)]
    have h0 : (0 : Int) ≤ (k : Int) := by omega
    have h1 : (k : Int) ≤ (c : Int) := by omega
    go_simp
  | some a =>
    rw [run_sliceAt_slice w 27 _ _ _ _ (by rw [e1]; exact Try.underlying27)]
    have h0 : (0 : Int) ≤ (k : Int) := by omega
    have h1 : (k : Int) ≤ (c : Int) := by omega
    go_simp
theorem IntsAt.take {w : World} {p : Option Addr} {l : List Int} (h : IntsAt w p l) (k : Nat) : IntsAt w p (l.take k) := ⟨by have := h.small; rw [List.length_take]; omega, fun i hi => by
  rw [List.length_take] at hi
  obtain ⟨b, o, h1, h2⟩ := h.cells i (by omega)
  refine ⟨b, o, h1, ?_⟩
  rw [List.getElem_take]
  exact h2⟩
theorem IntsAt.dropAt {w : World} {b o : Nat} {l : List Int} (h : IntsAt w (some ⟨b, o, none⟩) l) (k : Nat) : IntsAt w (some ⟨b, o + k, none⟩) (l.drop k) := ⟨by have := h.small; rw [List.length_drop]; omega, fun i hi => by
  rw [List.length_drop] at hi
  obtain ⟨b', o', h1, h2⟩ := h.cells (k + i) (by omega)
  injection h1 with h1
  injection h1 with h1 h3 _
  subst h1 h3
  refine ⟨b, o + k, rfl, ?_⟩
  rw [List.getElem_drop, Nat.add_assoc]
  exact h2⟩
/-- Rows that came in, with their room. -/
structure RowsIn (w : World) (a : Option Addr) (rs : List (List Int)) : Prop where
  small : rs.length ≤ maxLen
  cells : ∀ i (h : i < rs.length), ∃ b o p c, a = some ⟨b, o, none⟩ ∧ w.cell? ⟨b, o + i, none⟩ = some (.slice p rs[i].length c) ∧ IntsAt w p rs[i] ∧ (p = none → c = 0) ∧ rs[i].length ≤ c ∧ c ≤ maxLen ∧ rs[i].length ≤ 17592186043904
theorem RowsIn.below {w w' : World} {a : Option Addr} {rs : List (List Int)} (h : RowsIn w a rs) (hb : Below w.heap.size w w') : RowsIn w' a rs :=
  ⟨h.small, fun i hi => let ⟨b, o, p, c, h1, h2, h3, h4⟩ := h.cells i hi; ⟨b, o, p, c, h1, below_cell hb _ _ h2, h3.below hb, h4⟩⟩
set_option maxRecDepth 100000 in
set_option maxHeartbeats 4000000 in
theorem rsolves_any (p : Option Addr) (c : Nat) (a : List Int) (q : Option Addr) (d : Nat) (b : List Int) (r : Option Addr) (m : Nat) (v : List Int) (w : World) (hA : IntsAt w p a) (hB : IntsAt w q b) (hV : IntsAt w r v) (hr : r = none → m = 0) (hvm : v.length ≤ m) :
    Calls Try.prog 26 #[.slice p a.length c, .slice q b.length d, .slice r v.length m] w fun e w' => e = .returned (.bool (solB a b v)) ∧ ∃ n, w' = w.drewN n := by
  have hmax : maxLen = 9223372036854775807 := rfl
  have hsa := hA.small; have hsb := hB.small; have hsv := hV.small
  have HA := hid hA; have HB := hid hB; have HV := hid hV; have HR0 := hid hr
  have HC := hid (rcheck_any p c a q d b w hA hB)
  clear hA hB hV hr
  by_cases h0 : chkE a b = 0
  · obtain ⟨l5, l6, k1, k2⟩ := chk_zero h0
    have HK1 := hid (coe_of k1); have HK2 := hid (coe_of k2)
    rw [h0] at HC
    have hsum : IntKind.i64.wrap ((a.length : Int) + (b.length : Int)) = (a.length : Int) + (b.length : Int) := IntWalk.i64_in _ (by constructor <;> omega)
    have H0 := hid h0
    clear k1 k2 h0
    by_cases hl : v.length = a.length + b.length
    · have hne : ((v.length : Int) != (a.length : Int) + (b.length : Int)) = false := by simp; omega
      have HLV := hid hl
      have hv10 : v.length ≤ 10 := by omega
      clear hl
      go_enter Try.func26, Try.ntmps26
      go_wp2_with fail
      refine HC.out.mono ?_
      rintro e w1 ⟨rfl, hw1⟩
      subst hw1
      rename World => w
      clear HC
      go_wp2_with fail
      go_loopw [8] (fun iv wr => ∃ j : Nat, j ≤ v.length ∧ iv = .int .i64 j ∧ (∀ x ∈ v.take j, badC x = false) ∧ wr = w) (fun iv _ => v.length - (intOf iv).toNat)
      case atStart => exact ⟨0, Nat.zero_le _, rfl, by simp, rfl⟩
      case round =>
        obtain ⟨j, hj, rfl, hall, hwr⟩ := hrel
        subst hwr
        rename World => w
        by_cases hlt : j < v.length
        · obtain ⟨bb, oo, rfl, hc⟩ := HV.out.cells j hlt
          have HNB : Hid (badC v[j] = false → ∀ x ∈ v.take (j + 1), badC x = false) := hid (fun h1 x hx => by
            rw [List.take_add_one, List.getElem?_eq_getElem hlt] at hx
            rcases List.mem_append.1 hx with hx | hx
            · exact hall x hx
            · simp at hx; rw [hx]; exact h1)
          have HBD : Hid (badC v[j] = true → solB a b v = false) := hid (fun h1 => by
            have : v.any badC = true := List.any_eq_true.2 ⟨v[j], List.getElem_mem hlt, h1⟩
            unfold solB
            rw [this]
            simp)
          obtain ⟨y, hy⟩ : ∃ y, v[j] = y := ⟨_, rfl⟩
          rw [hy] at hc HNB HBD
          clear hy hall
          by_cases hy0 : y < 0
          · have HR := hid (HBD.out (by unfold badC; simp [hy0]))
            clear HBD HNB
            go_wp2_with fail
            go_ret
            exact ⟨by rw [HR.out]; rfl, 0, rfl⟩
          · by_cases hy1 : 1048576 < y
            · have HR := hid (HBD.out (by unfold badC; simp [hy1]))
              clear HBD HNB
              go_wp2_with fail
              go_ret
              exact ⟨by rw [HR.out]; rfl, 0, rfl⟩
            · have HR := hid (HNB.out (by unfold badC; simp; omega))
              clear HBD HNB
              go_wp2_with fail
              go_roundw
              case rel => exact ⟨j + 1, by omega, by go_num, HR.out, trivial⟩
              case measure => simp [intOf]; omega
        · have hbc : v.any badC = false := List.any_eq_false.2 (fun x hx => by
            rw [List.take_of_length_le (by omega)] at hall
            rw [hall x hx]
            simp)
          have HCV := hid ((cnt_iff v).1 hbc)
          have HR : Hid (solB a b v = decide (prodI a v = prodI b (v.drop a.length))) := hid (by unfold solB; rw [hbc]; simp [H0.out, HLV.out])
          have hP1 : ∀ n, Calls Try.prog 42 #[.slice p a.length c, .slice r a.length m] (w.drewN n) fun e w' => e = .returned (.int .i64 (prodI a v)) ∧ ∃ k, w' = (w.drewN n).drewN k := fun n => by
            have h1 := times_any p c a r m (v.take a.length) (w.drewN n) (HA.out.drewN n) ((HV.out.take _).drewN n) HK1.out (fun x hx => HCV.out x (List.mem_of_mem_take hx)) l5 (by rw [List.length_take]; have := HLV.out; omega)
            rw [prodI_take, List.length_take, Nat.min_eq_left (by have := HLV.out; omega)] at h1
            exact h1
          have hP2 : ∀ n r2 m2, IntsAt w r2 (v.drop a.length) → Calls Try.prog 42 #[.slice q b.length d, .slice r2 b.length m2] (w.drewN n) fun e w' => e = .returned (.int .i64 (prodI b (v.drop a.length))) ∧ ∃ k, w' = (w.drewN n).drewN k := fun n r2 m2 hI => by
            have hd : (v.drop a.length).length = b.length := by rw [List.length_drop]; have := HLV.out; omega
            have h1 := times_any q d b r2 m2 (v.drop a.length) (w.drewN n) (HB.out.drewN n) (hI.drewN n) HK2.out (fun x hx => HCV.out x (List.mem_of_mem_drop hx)) l6 (by omega)
            rw [hd] at h1
            exact h1
          obtain ⟨s1, hs1⟩ : ∃ s, prodI a v = s := ⟨_, rfl⟩
          obtain ⟨s2, hs2⟩ : ∃ s, prodI b (v.drop a.length) = s := ⟨_, rfl⟩
          rw [hs1] at hP1 HR
          rw [hs2] at hP2 HR
          have HP1 := hid hP1
          have hi0 : (0 : Int) ≤ (a.length : Int) := by omega
          have hi1 : (a.length : Int) ≤ (v.length : Int) := by have := HLV.out; omega
          have hi2 : (a.length : Int) ≤ (m : Int) := by omega
          have hi3 : (v.length : Int) ≤ (m : Int) := by omega
          have hbl : v.length - a.length = b.length := by have := HLV.out; omega
          have sT : ∀ n, (Instr.sliceAt 27 (.slice r v.length m) none (some (.int .i64 (a.length : Int))) none).run Try.prog (w.drewN n) = .ok (.slice r a.length m) (w.drewN n) := fun n => sl_to r v.length m a.length (by omega) hvm (w.drewN n)
          by_cases hma : m = a.length
          · have hb0 : b.length = 0 := by have := HLV.out; omega
            have hv0 : v.length = a.length := by omega
            have HQ2 : Hid (∀ n, Calls Try.prog 42 #[.slice q b.length d, .slice r 0 0] (w.drewN n) fun e w' => e = .returned (.int .i64 s2) ∧ ∃ k, w' = (w.drewN n).drewN k) := hid (fun n => by
              have h1 := hP2 n r 0 (by rw [List.drop_eq_nil_of_le (by omega)]; exact nil_ints _ _)
              have h2 : #[Value.slice q b.length d, .slice r b.length 0] = #[Value.slice q b.length d, .slice r 0 0] := by rw [hb0]
              rw [h2] at h1
              exact h1)
            have sE : ∀ n, (Instr.sliceAt 27 (.slice r a.length a.length) (some (.int .i64 (a.length : Int))) none none).run Try.prog (w.drewN n) = .ok (.slice r 0 0) (w.drewN n) := fun n => sl_end r a.length (w.drewN n)
            have sT2 : ∀ n, (Instr.sliceAt 27 (.slice r a.length a.length) none (some (.int .i64 (a.length : Int))) none).run Try.prog (w.drewN n) = .ok (.slice r a.length a.length) (w.drewN n) := fun n => sl_to r a.length a.length a.length (by omega) (by omega) (w.drewN n)
            rw [hma] at HP1
            rw [hv0, hma]
            have hj2 : ¬ j < a.length := by omega
            clear hP1 hP2 hs1 hs2 hi0 hi1 hi2 hi3 hbl hb0 hall hbc sT hlt
            have hi5 : (a.length : Int) ≤ (a.length : Int) := by omega
            cases r with
            | none =>
              go_wp2_with fail
              go_big_quiet ((first
                | (go_at_call 42; with_reducible exact Calls.quiet_of (HP1.out _))
                | (go_at_call 42; with_reducible exact Calls.quiet_of (HQ2.out _))))
              go_wp2_with fail
              go_ret
              exact ⟨by rw [HR.out]; rfl, _, rfl⟩
            | some ad =>
              go_wp2_with fail
              go_big_quiet ((first
                | (go_at_call 42; with_reducible exact Calls.quiet_of (HP1.out _))
                | (go_at_call 42; with_reducible exact Calls.quiet_of (HQ2.out _))))
              go_wp2_with fail
              go_ret
              exact ⟨by rw [HR.out]; rfl, _, rfl⟩
          · obtain ⟨ad, hr3⟩ : ∃ ad, r = some ad := by
              cases r with
              | none => exact absurd (HR0.out rfl) (by omega)
              | some ad => exact ⟨ad, rfl⟩
            subst hr3
            have hI2 : IntsAt w (some (ad.add a.length)) (v.drop a.length) := by
              rcases Nat.eq_zero_or_pos v.length with h | h
              · rw [List.eq_nil_of_length_eq_zero h, List.drop_nil]; exact nil_ints _ _
              · obtain ⟨b1, o1, e1, _⟩ := HV.out.cells 0 h
                injection e1 with e1
                subst e1
                rw [addr_add]
                exact HV.out.dropAt a.length
            have HQ2 : Hid (∀ n, Calls Try.prog 42 #[.slice q b.length d, .slice (some (ad.add a.length)) b.length (m - a.length)] (w.drewN n) fun e w' => e = .returned (.int .i64 s2) ∧ ∃ k, w' = (w.drewN n).drewN k) := hid (fun n => hP2 n _ _ hI2)
            have hi4 : ((m - a.length : Nat) : Int) ≠ 0 := by omega
            clear hP1 hP2 hs1 hs2 hall hbc hI2
            go_wp2_with fail
            go_big_quiet ((first
              | (go_at_call 42; with_reducible exact Calls.quiet_of (HP1.out _))
              | (go_at_call 42; with_reducible exact Calls.quiet_of (HQ2.out _))))
            go_wp2_with fail
            go_ret
            exact ⟨by rw [HR.out]; rfl, _, rfl⟩
    · have HR : Hid (solB a b v = false) := hid (by unfold solB; simp [hl])
      have hne : ((v.length : Int) != (a.length : Int) + (b.length : Int)) = true := by simp; omega
      clear hl
      go_enter Try.func26, Try.ntmps26
      go_wp2_with fail
      refine HC.out.mono ?_
      rintro e w1 ⟨rfl, hw1⟩
      subst hw1
      go_wp2_with fail
      go_ret
      exact ⟨by rw [HR.out]; rfl, 0, rfl⟩
  · have HR : Hid (solB a b v = false) := hid (by unfold solB; simp [h0])
    obtain ⟨z, hz⟩ : ∃ z, chkE a b = z := ⟨_, rfl⟩
    have hz0 : (z != 0) = true := by rw [hz] at h0; simpa using h0
    rw [hz] at HC
    clear h0 hz
    go_enter Try.func26, Try.ntmps26
    go_wp2_with fail
    refine HC.out.mono ?_
    rintro e w1 ⟨rfl, hw1⟩
    subst hw1
    go_wp2_with fail
    go_ret
    exact ⟨by rw [HR.out]; rfl, 0, rfl⟩
end Go.Proofs.Ytbdkogccjnmfoaa
