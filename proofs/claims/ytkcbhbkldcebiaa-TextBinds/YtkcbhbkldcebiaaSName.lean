/- What Name of package sig answers of any text: it goes through the runes. -/
import Derived.Test.YtkcbhbkldcebiaaLeaf
namespace Go.Proofs.Ytkcbhbkldcebiaa
open Go.RowKit

theorem okName_high {j : Nat} {c : Int} (h : 128 ≤ c) : okName j c = false := by
  simp [okName, lowZ, digZ]; omega
theorem okVar_high {j : Nat} {c : Int} (h : 128 ≤ c) : okVar j c = false := by
  simp [okVar, lowZ, digZ, upZ]; omega
theorem lowZ_high {c : Int} (h : 128 ≤ c) : lowZ c = false := by simp [lowZ]; omega
theorem upZ_high {c : Int} (h : 128 ≤ c) : upZ c = false := by simp [upZ]; omega
theorem digZ_high {c : Int} (h : 128 ≤ c) : digZ c = false := by simp [digZ]; omega
theorem below_iter (w : World) (s : ByteArray) (p : Nat) : Below w.heap.size w (w.iter s p) := (Below.refl _ _).alloc (Nat.le_refl _) _

set_option maxHeartbeats 400000 in
theorem sname_any (s : ByteArray) (w : World) : Calls Try.prog 97 #[.string s] w fun e w' => e = .returned (.bool (nameB s)) ∧ Below w.heap.size w w' := by
  cases hf : fitsB s
  · go_enter Try.func97, Try.ntmps97
    go_wp2_with (go_at_call 102; refine (fits_any _ _).mono ?_; rintro e w' ⟨rfl, rfl⟩)
    go_ret
    exact ⟨by simp [nameB, hf], Below.refl _ _⟩
  · go_enter Try.func97, Try.ntmps97
    go_wp2_with (go_at_call 102; refine (fits_any _ _).mono ?_; rintro e w' hh; obtain ⟨rfl, hw⟩ := hh; rw [hw]; clear hw w')
    go_loopw [3, 4] (fun _ _ w' => ∃ pos : Nat, pos ≤ s.size ∧ w' = w.iter s pos ∧ allB okName s pos = true) (fun _ _ w' => s.size - w'.iterPos w.heap.size)
    case atStart => exact ⟨0, Nat.zero_le _, rfl, allB_zero _ _⟩
    case round =>
      obtain ⟨pos, hpos, rfl, hall⟩ := hrel
      have HA : Hid (allB okName s pos = true) := hall
      clear hall
      by_cases hp : pos < s.size
      · have hst : Hid (∀ b, okName pos ((s[pos]'hp).toNat : Int) = b → allB okName s (pos + 1) = b) := by
          intro b hb; rw [allB_succ, HA.out, bt_of hp, hb]; rfl
        have hbad : Hid (okName pos ((s[pos]'hp).toNat : Int) = false → nameB s = false) := by
          intro hb; unfold nameB; rw [allB_false hp (by rw [bt_of hp]; exact hb)]; simp
        by_cases ha : ((s[pos]'hp).toNat) < 128
        · have hnx := fun ty => run_next_ascii (P := Try.prog) w s pos ty hp ha
          cases hl : lowZ ((s[pos]'hp).toNat : Int)
          · by_cases hz : pos = 0
            · subst hz
              go_wp2_with (first | (go_at_call 103; refine (small_any _ _).mono ?_; rintro e w' ⟨rfl, rfl⟩) | (go_at_call 104; refine (sdigit_any _ _).mono ?_; rintro e w' ⟨rfl, rfl⟩))
              go_ret
              exact ⟨by rw [hbad.out (by simp [okName, hl])]; rfl, below_iter _ _ _⟩
            · have hz0 : ((pos : Int) == 0) = false := beq_eq_false_iff_ne.2 (by omega)
              cases hd : digZ ((s[pos]'hp).toNat : Int)
              · go_wp2_with (first | (go_at_call 103; refine (small_any _ _).mono ?_; rintro e w' ⟨rfl, rfl⟩) | (go_at_call 104; refine (sdigit_any _ _).mono ?_; rintro e w' ⟨rfl, rfl⟩))
                go_ret
                exact ⟨by rw [hbad.out (by simp [okName, hl, hd])]; rfl, below_iter _ _ _⟩
              · go_wp2_with (first | (go_at_call 103; refine (small_any _ _).mono ?_; rintro e w' ⟨rfl, rfl⟩) | (go_at_call 104; refine (sdigit_any _ _).mono ?_; rintro e w' ⟨rfl, rfl⟩))
                go_roundw
                case rel => exact ⟨pos + 1, by omega, rfl, hst.out _ (by simp [okName, hd]; omega)⟩
                case measure => simp; omega
          · go_wp2_with (first | (go_at_call 103; refine (small_any _ _).mono ?_; rintro e w' ⟨rfl, rfl⟩) | (go_at_call 104; refine (sdigit_any _ _).mono ?_; rintro e w' ⟨rfl, rfl⟩))
            go_roundw
            case rel => exact ⟨pos + 1, by omega, rfl, hst.out _ (by simp [okName, hl])⟩
            case measure => simp; omega
        · have hnx : ∀ ty, (Instr.next (.pointer (some ⟨w.heap.size, 0, none⟩)) true ty).run Try.prog (w.iter s pos) = _ := fun ty => run_next_any w s pos ty hp
          have hd := (decode_high s pos hp (by omega)).1
          have hl0 : lowZ ((Utf8.decode s pos).1 : Int) = false := lowZ_high (by omega)
          have hd0 : digZ ((Utf8.decode s pos).1 : Int) = false := digZ_high (by omega)
          by_cases hz : pos = 0
          · subst hz
            go_wp2_with (first | (go_at_call 103; refine (small_any _ _).mono ?_; rintro e w' ⟨rfl, rfl⟩) | (go_at_call 104; refine (sdigit_any _ _).mono ?_; rintro e w' ⟨rfl, rfl⟩))
            go_ret
            exact ⟨by rw [hbad.out (okName_high (by omega))]; rfl, below_iter _ _ _⟩
          · have hz0 : ((pos : Int) == 0) = false := beq_eq_false_iff_ne.2 (by omega)
            go_wp2_with (first | (go_at_call 103; refine (small_any _ _).mono ?_; rintro e w' ⟨rfl, rfl⟩) | (go_at_call 104; refine (sdigit_any _ _).mono ?_; rintro e w' ⟨rfl, rfl⟩))
            go_ret
            exact ⟨by rw [hbad.out (okName_high (by omega))]; rfl, below_iter _ _ _⟩
      · have hnx : ∀ ty, (Instr.next (.pointer (some ⟨w.heap.size, 0, none⟩)) true ty).run Try.prog (w.iter s pos) = _ := fun ty => run_next_end w s pos ty hp
        have hgood : Hid (nameB s = true) := by
          have hke : s.size = pos := by omega
          show nameB s = true; unfold nameB; rw [hf, hke, HA.out]; rfl
        go_wp2
        go_ret
        exact ⟨by rw [hgood.out]; rfl, below_iter _ _ _⟩
end Go.Proofs.Ytkcbhbkldcebiaa
