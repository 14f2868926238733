/- What Name and Var of package sig, and the document's, answer of any text. -/
import Derived.Test.YtfnfbljijkjkjaaLeaf
namespace Go.Proofs.Ytfnfbljijkjkjaa
open Go.RowKit

set_option maxHeartbeats 400000 in
theorem rname_any (s : ByteArray) (w : World) (hs : s.size ≤ maxLen) : Calls Try.prog 100 #[.string s] w fun e w' => e = .returned (.bool (nameB s)) ∧ w' = w := by
  unfold maxLen at hs
  by_cases h0 : (s.size : Int) < 1
  · go_enter Try.func100, Try.ntmps100
    go_wp2
    go_ret
    exact ⟨by simp [nameB, fitsB]; omega, rfl⟩
  · by_cases h1 : 12 < (s.size : Int)
    · go_enter Try.func100, Try.ntmps100
      go_wp2
      go_ret
      exact ⟨by simp [nameB, fitsB]; omega, rfl⟩
    · have hp : 0 < s.size := by omega
      have hfit : Hid (fitsB s = true) := by show fitsB s = true; simp [fitsB]; omega
      cases hl : lowZ ((s[0]'hp).toNat : Int)
      · have hbad : Hid (nameB s = false) := by
          show nameB s = false
          unfold nameB
          rw [hfit.out, allB_false hp (by rw [bt_of hp]; simp [okName, hl])]; rfl
        go_enter Try.func100, Try.ntmps100
        go_wp2_with (go_at_call 103; refine (rlow_any _ _).mono ?_; rintro e w' ⟨rfl, rfl⟩)
        go_ret
        exact ⟨by rw [hbad.out]; rfl, rfl⟩
      · have h01 : Hid (allB okName s 1 = true) := by
          show allB okName s 1 = true
          rw [allB_succ, allB_zero, bt_of hp]; simp [okName, hl]
        go_enter Try.func100, Try.ntmps100
        go_wp2_with (go_at_call 103; refine (rlow_any _ _).mono ?_; rintro e w' ⟨rfl, rfl⟩)
        go_loop [3] (fun i => ∃ k : Nat, 1 ≤ k ∧ k ≤ s.size ∧ i = .int .i64 k ∧ allB okName s k = true) (fun i => s.size - (intOf i).toNat)
        case atStart => exact ⟨1, Nat.le_refl _, hp, rfl, h01.out⟩
        case round =>
          obtain ⟨k, hk1, hk, rfl, hall⟩ := hrel
          have HA : Hid (allB okName s k = true) := hall
          clear hall
          by_cases hlt : k < s.size
          · have hst : Hid (∀ b, okName k ((s[k]'hlt).toNat : Int) = b → allB okName s (k + 1) = b) := by
              intro b hb; rw [allB_succ, HA.out, bt_of hlt, hb]; rfl
            have hbad : Hid (okName k ((s[k]'hlt).toNat : Int) = false → nameB s = false) := by
              intro hb; unfold nameB; rw [allB_false hlt (by rw [bt_of hlt]; exact hb)]; simp
            cases hlk : lowZ ((s[k]'hlt).toNat : Int)
            · cases hdk : digZ ((s[k]'hlt).toNat : Int)
              · go_wp2_with (first | (go_at_call 103; refine (rlow_any _ _).mono ?_; rintro e w' ⟨rfl, rfl⟩) | (go_at_call 101; refine (rdigit_any _ _).mono ?_; rintro e w' ⟨rfl, rfl⟩))
                go_ret
                exact ⟨by rw [hbad.out (by simp [okName, hlk, hdk])]; rfl, rfl⟩
              · go_wp2_with (first | (go_at_call 103; refine (rlow_any _ _).mono ?_; rintro e w' ⟨rfl, rfl⟩) | (go_at_call 101; refine (rdigit_any _ _).mono ?_; rintro e w' ⟨rfl, rfl⟩))
                go_round
                case rel => exact ⟨k + 1, by omega, by omega, by go_num, hst.out _ (by simp [okName, hdk]; omega)⟩
                case measure => simp [intOf]; omega
            · go_wp2_with (first | (go_at_call 103; refine (rlow_any _ _).mono ?_; rintro e w' ⟨rfl, rfl⟩) | (go_at_call 101; refine (rdigit_any _ _).mono ?_; rintro e w' ⟨rfl, rfl⟩))
              go_round
              case rel => exact ⟨k + 1, by omega, by omega, by go_num, hst.out _ (by simp [okName, hlk])⟩
              case measure => simp [intOf]; omega
          · have hke : s.size = k := by omega
            have hgood : Hid (nameB s = true) := by show nameB s = true; unfold nameB; rw [hfit.out, hke, HA.out]; rfl
            clear hke
            go_wp2
            go_ret
            exact ⟨by rw [hgood.out]; rfl, rfl⟩

end Go.Proofs.Ytfnfbljijkjkjaa
