/- How far bytes go, and which signs there are, by the document. -/
import Derived.Test.YtkcbhbkldcebiaaWNext
namespace Go.Proofs.Ytkcbhbkldcebiaa
open Go.RowKit

def okRun (low up : Bool) (c : Int) : Bool := digZ c || (low && lowZ c) || (up && upZ c)

set_option maxHeartbeats 2000000 in
theorem rrun_any (s : ByteArray) (k0 : Nat) (low up : Bool) (w : World) (hs : s.size ≤ maxLen) (hk0 : k0 ≤ s.size) : Calls Try.prog 78 #[.string s, .int .i64 k0, .bool low, .bool up] w fun e w' => e = .returned (.int .i64 (runTo (okRun low up) s k0)) ∧ w' = w := by
  unfold maxLen at hs
  go_enter Try.func78, Try.ntmps78
  go_wp2
  go_loop [1] (fun i => ∃ k : Nat, k ≤ s.size ∧ i = .int .i64 k ∧ runTo (okRun low up) s k = runTo (okRun low up) s k0) (fun i => s.size - (intOf i).toNat)
  case atStart => exact ⟨k0, hk0, rfl, rfl⟩
  case round =>
    obtain ⟨k, hk, rfl, hrun⟩ := hrel
    by_cases hlt : k < s.size
    · have hno : Hid (okRun low up ((s[k]'hlt).toNat : Int) = false → runTo (okRun low up) s k0 = k) := by
        intro hb; rw [← hrun]; exact runTo_stop (by rw [bt_of hlt]; exact hb)
      have hyes : Hid (okRun low up ((s[k]'hlt).toNat : Int) = true → runTo (okRun low up) s (k + 1) = runTo (okRun low up) s k0) := by
        intro hb; rw [← hrun]; exact (runTo_step hlt (by rw [bt_of hlt]; exact hb)).symm
      clear hrun
      by_cases h1 : 48 ≤ ((s[k]'hlt).toNat : Int)
      · by_cases h2 : ((s[k]'hlt).toNat : Int) ≤ 57
        · go_wp2
          go_round
          case rel => exact ⟨k + 1, by omega, by go_num, hyes.out (by simp [okRun, digZ]; omega)⟩
          case measure => simp [intOf]; omega
        · by_cases h3 : 97 ≤ ((s[k]'hlt).toNat : Int)
          · have h5 : 65 ≤ ((s[k]'hlt).toNat : Int) := by omega
            have h6 : ¬ ((s[k]'hlt).toNat : Int) ≤ 90 := by omega
            by_cases h4 : ((s[k]'hlt).toNat : Int) ≤ 122
            · cases low
              · cases up
                · go_wp2
                  go_ret
                  exact ⟨by rw [hno.out (by simp [okRun, digZ]; omega)]; rfl, rfl⟩
                · go_wp2
                  go_ret
                  exact ⟨by rw [hno.out (by simp [okRun, digZ, upZ]; omega)]; rfl, rfl⟩
              · go_wp2
                go_round
                case rel => exact ⟨k + 1, by omega, by go_num, hyes.out (by simp [okRun, lowZ, h3, h4])⟩
                case measure => simp [intOf]; omega
            · cases low <;> cases up
              all_goals
                go_wp2
                go_ret
                exact ⟨by rw [hno.out (by simp [okRun, digZ, upZ, lowZ]; omega)]; rfl, rfl⟩
          · by_cases h5 : 65 ≤ ((s[k]'hlt).toNat : Int)
            · by_cases h6 : ((s[k]'hlt).toNat : Int) ≤ 90
              · cases up
                · cases low
                  all_goals
                    go_wp2
                    go_ret
                    exact ⟨by rw [hno.out (by simp [okRun, digZ, upZ, lowZ]; omega)]; rfl, rfl⟩
                · cases low
                  all_goals
                    go_wp2
                    go_round
                    case rel => exact ⟨k + 1, by omega, by go_num, hyes.out (by simp [okRun, upZ, h5, h6])⟩
                    case measure => simp [intOf]; omega
              · cases low <;> cases up
                all_goals
                  go_wp2
                  go_ret
                  exact ⟨by rw [hno.out (by simp [okRun, digZ, upZ, lowZ]; omega)]; rfl, rfl⟩
            · cases low <;> cases up
              all_goals
                go_wp2
                go_ret
                exact ⟨by rw [hno.out (by simp [okRun, digZ, upZ, lowZ]; omega)]; rfl, rfl⟩
      · have h3 : ¬ 97 ≤ ((s[k]'hlt).toNat : Int) := by omega
        have h5 : ¬ 65 ≤ ((s[k]'hlt).toNat : Int) := by omega
        cases low <;> cases up
        all_goals
          go_wp2
          go_ret
          exact ⟨by rw [hno.out (by simp [okRun, digZ, upZ, lowZ]; omega)]; rfl, rfl⟩
    · have hE : Hid (runTo (okRun low up) s k0 = k) := by
        show _ = _; rw [← hrun]; exact runTo_end (by omega)
      clear hrun
      go_wp2
      go_ret
      exact ⟨by rw [hE.out]; rfl, rfl⟩

/-- The kind of a sign, and its length. -/
def signK (s : ByteArray) (b : Nat) : Int := if bt s b == 40 then 3 else if bt s b == 41 then 4 else if bt s b == 44 then 5 else if bt s b == 61 then 6 else if bt s b == 45 && bt s (b + 1) == 62 then 7 else 0
def signN (s : ByteArray) (b : Nat) : Int := if signK s b == 7 then 2 else if signK s b == 0 then 0 else 1

set_option maxHeartbeats 1000000 in
theorem sign_any (s : ByteArray) (b : Nat) (w : World) (hs : s.size ≤ maxLen) (hb : b < s.size) : Calls Try.prog 77 #[.string s, .int .i64 b] w fun e w' => e = .returned (.tuple #[.int .i64 (signK s b), .int .i64 (signN s b)]) ∧ w' = w := by
  have hk : Hid (signK s b = if ((s[b]'hb).toNat : Int) == 40 then (3 : Int) else if ((s[b]'hb).toNat : Int) == 41 then 4 else if ((s[b]'hb).toNat : Int) == 44 then 5 else if ((s[b]'hb).toNat : Int) == 61 then 6 else if ((s[b]'hb).toNat : Int) == 45 && bt s (b + 1) == 62 then 7 else 0) := by
    show signK s b = _
    simp only [signK, bt_of hb]
  have hn : Hid (∀ z, signK s b = z → signN s b = if z == 7 then 2 else if z == 0 then 0 else 1) := by
    rintro z rfl; rfl
  unfold maxLen at hs
  have hb0 : (0 : Int) ≤ (b : Int) := by omega
  have hb1 : (b : Int) < (s.size : Int) := by omega
  cases h1 : (((s[b]'hb).toNat : Int) == 40)
  · cases h2 : (((s[b]'hb).toNat : Int) == 41)
    · cases h3 : (((s[b]'hb).toNat : Int) == 44)
      · cases h4 : (((s[b]'hb).toNat : Int) == 61)
        · cases h5 : (((s[b]'hb).toNat : Int) == 45)
          · have HK : Hid (signK s b = 0) := by rw [hk.out, h1, h2, h3, h4, h5]; exact rfl
            have HN : Hid (signN s b = 0) := hn.out 0 HK.out
            clear hk hn
            go_enter Try.func77, Try.ntmps77
            go_wp2
            go_ret2
            exact ⟨by rw [HK.out, HN.out]; rfl, rfl⟩
          · by_cases h6 : b + 1 < s.size
            · have h6' : (b : Int) + 1 < (s.size : Int) := by omega
              cases h7 : (((s[b + 1]'h6).toNat : Int) == 62)
              · have HK : Hid (signK s b = 0) := by rw [hk.out, h1, h2, h3, h4, h5, bt_of h6, h7]; exact rfl
                have HN : Hid (signN s b = 0) := hn.out 0 HK.out
                clear hk hn
                go_enter Try.func77, Try.ntmps77
                go_wp2
                go_ret2
                exact ⟨by rw [HK.out, HN.out]; rfl, rfl⟩
              · have HK : Hid (signK s b = 7) := by rw [hk.out, h1, h2, h3, h4, h5, bt_of h6, h7]; exact rfl
                have HN : Hid (signN s b = 2) := hn.out 7 HK.out
                clear hk hn
                go_enter Try.func77, Try.ntmps77
                go_wp2
                go_ret2
                exact ⟨by rw [HK.out, HN.out]; rfl, rfl⟩
            · have h6' : ¬ (b : Int) + 1 < (s.size : Int) := by omega
              have HK : Hid (signK s b = 0) := by rw [hk.out, h1, h2, h3, h4, h5, bt_out (by omega)]; exact rfl
              have HN : Hid (signN s b = 0) := hn.out 0 HK.out
              clear hk hn
              go_enter Try.func77, Try.ntmps77
              go_wp2
              go_ret2
              exact ⟨by rw [HK.out, HN.out]; rfl, rfl⟩
        · have HK : Hid (signK s b = 6) := by rw [hk.out, h1, h2, h3, h4]; exact rfl
          have HN : Hid (signN s b = 1) := hn.out 6 HK.out
          clear hk hn
          go_enter Try.func77, Try.ntmps77
          go_wp2
          go_ret2
          exact ⟨by rw [HK.out, HN.out]; rfl, rfl⟩
      · have HK : Hid (signK s b = 5) := by rw [hk.out, h1, h2, h3]; exact rfl
        have HN : Hid (signN s b = 1) := hn.out 5 HK.out
        clear hk hn
        go_enter Try.func77, Try.ntmps77
        go_wp2
        go_ret2
        exact ⟨by rw [HK.out, HN.out]; rfl, rfl⟩
    · have HK : Hid (signK s b = 4) := by rw [hk.out, h1, h2]; exact rfl
      have HN : Hid (signN s b = 1) := hn.out 4 HK.out
      clear hk hn
      go_enter Try.func77, Try.ntmps77
      go_wp2
      go_ret2
      exact ⟨by rw [HK.out, HN.out]; rfl, rfl⟩
  · have HK : Hid (signK s b = 3) := by rw [hk.out, h1]; exact rfl
    have HN : Hid (signN s b = 1) := hn.out 3 HK.out
    clear hk hn
    go_enter Try.func77, Try.ntmps77
    go_wp2
    go_ret2
    exact ⟨by rw [HK.out, HN.out]; rfl, rfl⟩

end Go.Proofs.Ytkcbhbkldcebiaa
