/- What the smallest functions of layer 2 answer: letters, digits, how far blanks and names go. -/
import Derived.Test.YtkcbhbkldcebiaaLeaf
import Derived.Test.YtkcbhbkldcebiaaWPlain
import Derived.WalkMore
namespace Go.Proofs.Ytkcbhbkldcebiaa
open Go.RowKit

theorem wsmall_any (r : Int) (w : World) : Calls Try.prog 93 #[.int .u8 r] w fun e w' => e = .returned (.bool (lowZ r)) ∧ w' = w := by
  by_cases h : 97 ≤ r
  · go_enter Try.func93, Try.ntmps93
    go_wp2
    go_ret
    exact ⟨by simp [lowZ, h], rfl⟩
  · go_enter Try.func93, Try.ntmps93
    go_wp2
    go_ret
    exact ⟨by simp [lowZ]; omega, rfl⟩
theorem wgreat_any (r : Int) (w : World) : Calls Try.prog 94 #[.int .u8 r] w fun e w' => e = .returned (.bool (upZ r)) ∧ w' = w := by
  by_cases h : 65 ≤ r
  · go_enter Try.func94, Try.ntmps94
    go_wp2
    go_ret
    exact ⟨by simp [upZ, h], rfl⟩
  · go_enter Try.func94, Try.ntmps94
    go_wp2
    go_ret
    exact ⟨by simp [upZ]; omega, rfl⟩
theorem wdigit_any (r : Int) (w : World) : Calls Try.prog 101 #[.int .u8 r] w fun e w' => e = .returned (.bool (digZ r)) ∧ w' = w := by
  by_cases h : 48 ≤ r
  · go_enter Try.func101, Try.ntmps101
    go_wp2
    go_ret
    exact ⟨by simp [digZ, h], rfl⟩
  · go_enter Try.func101, Try.ntmps101
    go_wp2
    go_ret
    exact ⟨by simp [digZ]; omega, rfl⟩

set_option maxHeartbeats 400000 in
theorem passBlanks_any (s : ByteArray) (k0 : Nat) (w : World) (hs : s.size ≤ maxLen) (hk0 : k0 ≤ s.size) : Calls Try.prog 84 #[.string s, .int .i64 k0] w fun e w' => e = .returned (.int .i64 (runTo blank s k0)) ∧ w' = w := by
  unfold maxLen at hs
  go_enter Try.func84, Try.ntmps84
  go_wp2
  go_loop [1] (fun i => ∃ k : Nat, k ≤ s.size ∧ i = .int .i64 k ∧ runTo blank s k = runTo blank s k0) (fun i => s.size - (intOf i).toNat)
  case atStart => exact ⟨k0, hk0, rfl, rfl⟩
  case round =>
    obtain ⟨k, hk, rfl, hrun⟩ := hrel
    by_cases hlt : k < s.size
    · cases hb : (((s[k]'hlt).toNat : Int) == 32)
      · have hE : Hid (runTo blank s k0 = k) := by
          show _ = _; rw [← hrun]; exact runTo_stop (by rw [bt_of hlt]; exact hb)
        clear hrun
        go_wp2
        go_ret
        exact ⟨by rw [hE.out]; rfl, rfl⟩
      · have hE : Hid (runTo blank s (k + 1) = runTo blank s k0) := by
          show _ = _; rw [← hrun]; exact (runTo_step hlt (by rw [bt_of hlt]; exact hb)).symm
        clear hrun
        go_wp2
        go_round
        case rel => exact ⟨k + 1, by omega, by go_num, hE.out⟩
        case measure => simp [intOf]; omega
    · have hE : Hid (runTo blank s k0 = k) := by
        show _ = _; rw [← hrun]; exact runTo_end (by omega)
      clear hrun
      go_wp2
      go_ret
      exact ⟨by rw [hE.out]; rfl, rfl⟩

set_option maxHeartbeats 1000000 in
theorem nameLength_any (s : ByteArray) (w : World) (hs : s.size ≤ maxLen) (hp : 0 < s.size) : Calls Try.prog 96 #[.string s] w fun e w' => e = .returned (.int .i64 (runTo (okTail (bt s 0)) s 1)) ∧ w' = w := by
  unfold maxLen at hs
  obtain ⟨c0, hc0⟩ : ∃ c0, c0 = ((s[0]'hp).toNat : Int) := ⟨_, rfl⟩
  have h00 : (0 : Int) < (s.size : Int) := by omega
  rw [bt_of hp]
  go_enter Try.func96, Try.ntmps96
  go_wp2
  go_step3
  go_wp2
  go_step3
  go_wp2
  go_loop [4] (fun i => ∃ k : Nat, 1 ≤ k ∧ k ≤ s.size ∧ i = .int .i64 k ∧ runTo (okTail ((s[0]'hp).toNat : Int)) s k = runTo (okTail ((s[0]'hp).toNat : Int)) s 1) (fun i => s.size - (intOf i).toNat)
  case atStart => exact ⟨1, Nat.le_refl _, hp, rfl, rfl⟩
  case round =>
    obtain ⟨k, hk1, hk, rfl, hrun⟩ := hrel
    by_cases hlt : k < s.size
    · have hno : Hid (okTail ((s[0]'hp).toNat : Int) ((s[k]'hlt).toNat : Int) = false → runTo (okTail ((s[0]'hp).toNat : Int)) s 1 = k) := by
        intro hb; rw [← hrun]; exact runTo_stop (by rw [bt_of hlt]; exact hb)
      have hyes : Hid (okTail ((s[0]'hp).toNat : Int) ((s[k]'hlt).toNat : Int) = true → runTo (okTail ((s[0]'hp).toNat : Int)) s (k + 1) = runTo (okTail ((s[0]'hp).toNat : Int)) s 1) := by
        intro hb; rw [← hrun]; exact (runTo_step hlt (by rw [bt_of hlt]; exact hb)).symm
      clear hrun
      cases hd : digZ ((s[k]'hlt).toNat : Int)
      · cases hl : lowZ ((s[k]'hlt).toNat : Int)
        · cases hu : upZ ((s[k]'hlt).toNat : Int)
          · go_wp2_with (first | (go_at_call 101; refine (wdigit_any _ _).mono ?_; rintro e w' ⟨rfl, rfl⟩) | (go_at_call 93; refine (wsmall_any _ _).mono ?_; rintro e w' ⟨rfl, rfl⟩) | (go_at_call 94; refine (wgreat_any _ _).mono ?_; rintro e w' ⟨rfl, rfl⟩))
            try rw [Exit.noGoto_ret]
            go_ret
            exact ⟨by rw [hno.out (by simp [okTail, hd, hl, hu])]; rfl, rfl⟩
          · cases hu0 : upZ ((s[0]'hp).toNat : Int)
            · go_wp2_with (first | (go_at_call 101; refine (wdigit_any _ _).mono ?_; rintro e w' ⟨rfl, rfl⟩) | (go_at_call 93; refine (wsmall_any _ _).mono ?_; rintro e w' ⟨rfl, rfl⟩) | (go_at_call 94; refine (wgreat_any _ _).mono ?_; rintro e w' ⟨rfl, rfl⟩))
              try rw [Exit.noGoto_ret]
              go_ret
              exact ⟨by rw [hno.out (by simp [okTail, hd, hl, hu0])]; rfl, rfl⟩
            · go_wp2_with (first | (go_at_call 101; refine (wdigit_any _ _).mono ?_; rintro e w' ⟨rfl, rfl⟩) | (go_at_call 93; refine (wsmall_any _ _).mono ?_; rintro e w' ⟨rfl, rfl⟩) | (go_at_call 94; refine (wgreat_any _ _).mono ?_; rintro e w' ⟨rfl, rfl⟩))
              go_round
              case rel => exact ⟨k + 1, by omega, by omega, by go_num, hyes.out (by simp [okTail, hu, hu0])⟩
              case measure => simp [intOf]; omega
        · have hu : upZ ((s[k]'hlt).toNat : Int) = false := by simp [lowZ] at hl; simp [upZ]; omega
          cases hn : (((s[0]'hp).toNat : Int) != 95)
          · go_wp2_with (first | (go_at_call 101; refine (wdigit_any _ _).mono ?_; rintro e w' ⟨rfl, rfl⟩) | (go_at_call 93; refine (wsmall_any _ _).mono ?_; rintro e w' ⟨rfl, rfl⟩) | (go_at_call 94; refine (wgreat_any _ _).mono ?_; rintro e w' ⟨rfl, rfl⟩))
            try rw [Exit.noGoto_ret]
            go_ret
            exact ⟨by rw [hno.out (by simp only [okTail, hd, hn, hu]; simp)]; rfl, rfl⟩
          · go_wp2_with (first | (go_at_call 101; refine (wdigit_any _ _).mono ?_; rintro e w' ⟨rfl, rfl⟩) | (go_at_call 93; refine (wsmall_any _ _).mono ?_; rintro e w' ⟨rfl, rfl⟩) | (go_at_call 94; refine (wgreat_any _ _).mono ?_; rintro e w' ⟨rfl, rfl⟩))
            go_round
            case rel => exact ⟨k + 1, by omega, by omega, by go_num, hyes.out (by simp only [okTail, hl, hn]; simp)⟩
            case measure => simp [intOf]; omega
      · go_wp2_with (first | (go_at_call 101; refine (wdigit_any _ _).mono ?_; rintro e w' ⟨rfl, rfl⟩) | (go_at_call 93; refine (wsmall_any _ _).mono ?_; rintro e w' ⟨rfl, rfl⟩) | (go_at_call 94; refine (wgreat_any _ _).mono ?_; rintro e w' ⟨rfl, rfl⟩))
        go_round
        case rel => exact ⟨k + 1, by omega, by omega, by go_num, hyes.out (by simp [okTail, hd])⟩
        case measure => simp [intOf]; omega
    · have hE : Hid (runTo (okTail ((s[0]'hp).toNat : Int)) s 1 = k) := by
        show _ = _; rw [← hrun]; exact runTo_end (by omega)
      clear hrun
      go_wp2
      try rw [Exit.noGoto_ret]
      go_ret
      exact ⟨by rw [hE.out]; rfl, rfl⟩
end Go.Proofs.Ytkcbhbkldcebiaa
