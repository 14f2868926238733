/- The program's Number whole; the document's. -/
import Derived.Test.YtppgmepmegelbaaGreatDoorRjE
namespace Go.Proofs.YtppgmepmegelbaaGreatDoor
open Go.RowKit Go.Sort


theorem pre_iff (l : List UInt8) : Lib.hasPrefix l [95] = true ↔ l[0]? = some 95 := by
  cases l with
  | nil => exact ⟨fun h => absurd h (by decide), fun h => absurd h (by decide)⟩
  | cons a t =>
    show ((95 == a) && ([] : List UInt8).isPrefixOf t) = true ↔ some a = some 95
    rw [Bool.and_eq_true, beq_iff_eq, Option.some.injEq]
    exact ⟨fun h => h.1.symm, fun h => ⟨h.symm, by cases t <;> rfl⟩⟩

theorem pnum_any (s : ByteArray) (hz : s.size ≤ 9223372036854775807) (w : World) (hs : Std w) :
    Calls Tryz.prog 15 #[.string s] w fun e w' => e = .returned (numV (numP s.data.toList)) ∧ Below w.heap.size w w' := by
  have hsz : s.data.toList.length = s.size := by rw [Array.length_toList]; rfl
  by_cases hp : Lib.hasPrefix s.data.toList [95] = true
  · have hp2 := (pre_iff _).mp hp
    by_cases hl : s.size ≤ 12
    · have hD := trim_of hp
      have hdl : (s.data.toList.drop 1).length ≤ 11 := by rw [List.length_drop, hsz]; omega
      have hN : numP s.data.toList = match Lib.atoi (s.data.toList.drop 1) with
          | none => none
          | some n => if nameL n = s.data.toList then some n else none := by
        unfold numP; rw [if_neg (by rw [hsz]; exact fun h => h.elim (fun x => x hp2) (by omega))]
        rfl
      cases ha : Lib.atoi (s.data.toList.drop 1) with
      | none =>
        rw [show numP s.data.toList = none by rw [hN, ha]]
        exact pnum_err s hp hl _ hD hdl ha w hs
      | some n =>
        rw [ha] at hN
        exact pnum_ok s hp hl _ hD hdl n ha _ (fun h => by rw [hN]; exact if_pos h) (fun h => by rw [hN]; exact if_neg h) w hs
    · rw [show numP s.data.toList = none by unfold numP; rw [if_pos (.inr (by rw [hsz]; omega))]]
      exact pnum_no2 s hz hp (by omega) w
  · have hp2 : s.data.toList[0]? ≠ some 95 := fun h => hp ((pre_iff _).mpr h)
    rw [show numP s.data.toList = none by unfold numP; rw [if_pos (.inl hp2)]]
    exact pnum_no1 s (by simpa using hp) w

theorem byte_at (s : ByteArray) (i : Nat) (h : i < s.size) (c : Nat) (hc : c < 256) : s.data.toList[i]? = some (UInt8.ofNat c) ↔ ((s[i]'h).toNat : Int) = (c : Int) := by
  have h1 : s.data.toList[i]? = some (s[i]'h) := by
    rw [List.getElem?_eq_getElem (by rw [Array.length_toList]; exact h)]; rfl
  rw [h1, Option.some.injEq, ← UInt8.toNat_inj, UInt8.toNat_ofNat', Nat.mod_eq_of_lt hc]
  omega

end Go.Proofs.YtppgmepmegelbaaGreatDoor
