/- What the document's Next answers of any text, at any place. -/
import Derived.Test.YtkcbhbkldcebiaaRRun
namespace Go.Proofs.Ytkcbhbkldcebiaa
open Go.RowKit

theorem signK_kind {s : ByteArray} {b : Nat} (h1 : lowZ (bt s b) = false) (h2 : upZ (bt s b) = false) (h3 : bt s b ≠ 95) : signK s b = kindP s b := by
  simp [signK, kindP, h1, h2, h3]
theorem signK_none {s : ByteArray} {b : Nat} (h : lowZ (bt s b) = true ∨ upZ (bt s b) = true ∨ bt s b = 95) : signK s b = 0 := by
  have : bt s b ≠ 40 ∧ bt s b ≠ 41 ∧ bt s b ≠ 44 ∧ bt s b ≠ 61 ∧ bt s b ≠ 45 := by
    rcases h with h | h | h
    · simp [lowZ] at h; omega
    · simp [upZ] at h; omega
    · omega
  obtain ⟨a1, a2, a3, a4, a5⟩ := this
  simp [signK, a1, a2, a3, a4, a5]
theorem run_name {s : ByteArray} {b : Nat} (hb : b < s.size) (h : lowZ (bt s b) = true) : runTo (okRun true false) s b = endP s b := by
  rw [endP_name (.inl (kindP_of_low h)), runTo_step hb (by simp [okRun, h])]
  refine runTo_congr (fun c => ?_)
  have h95 : (bt s b != 95) = true := by
    rw [bne_iff_ne]; intro e; rw [e] at h; simp [lowZ] at h
  simp [okRun, okTail, low_not_up h, h95]
theorem run_great {s : ByteArray} {b : Nat} (hb : b < s.size) (h : upZ (bt s b) = true) : runTo (okRun true true) s b = endP s b := by
  rw [endP_name (.inr (kindP_of_up h)), runTo_step hb (by simp [okRun, h])]
  refine runTo_congr (fun c => ?_)
  have h95 : (bt s b != 95) = true := by
    rw [bne_iff_ne]; intro e; rw [e] at h; simp [upZ] at h
  simp [okRun, okTail, h, h95]
theorem run_under {s : ByteArray} {b : Nat} (h : bt s b = 95) : runTo (okRun false false) s (b + 1) = endP s b := by
  rw [endP_name (.inr (kindP_of_under h))]
  refine runTo_congr (fun c => ?_)
  simp [okRun, okTail, h, upZ]

set_option maxHeartbeats 1000000 in
theorem rnext_out (s : ByteArray) (k : Int) (w : World) (hk : k < 0 ∨ (s.size : Int) < k) : Calls Try.prog 65 #[.string s, .int .i64 k] w fun e w' => e = .returned (Nx.val ⟨noWd, 0, 1⟩) ∧ Below w.heap.size w w' := by
  by_cases h0 : k < 0
  · go_enter Try.func65, Try.ntmps65
    go_wp2
    go_returns
    exact ⟨rfl, (Below.refl _ _).alloc (Nat.le_refl _) _⟩
  · have h1 : (s.size : Int) < k := by omega
    go_enter Try.func65, Try.ntmps65
    go_wp2
    go_returns
    exact ⟨rfl, (Below.refl _ _).alloc (Nat.le_refl _) _⟩

set_option maxHeartbeats 4000000 in
theorem rnext_any (s : ByteArray) (k0 : Nat) (w : World) (hs : s.size ≤ maxLen) (hk0 : k0 ≤ s.size) : Calls Try.prog 65 #[.string s, .int .i64 k0] w fun e w' => e = .returned (Nx.val (nx s k0)) ∧ Below w.heap.size w w' := by
  have hs' : Hid (s.size ≤ maxLen) := hs
  unfold maxLen at hs
  have hk1 : ¬ (k0 : Int) < 0 := by omega
  have hk2 : ¬ (s.size : Int) < (k0 : Int) := by omega
  go_enter Try.func65, Try.ntmps65
  go_wp2
  go_loop [1] (fun i => ∃ k : Nat, k ≤ s.size ∧ i = .int .i64 k ∧ runTo blank s k = runTo blank s k0) (fun i => s.size - (intOf i).toNat)
  case atStart => exact ⟨k0, hk0, rfl, rfl⟩
  case round =>
    obtain ⟨k, hk, rfl, hrun⟩ := hrel
    have hk0' : (0 : Int) ≤ (k : Int) := by omega
    by_cases hlt : k < s.size
    · have hkl : (k : Int) < (s.size : Int) := by omega
      cases hbl : (((s[k]'hlt).toNat : Int) == 32)
      · have hE : runTo blank s k0 = k := by
          rw [← hrun]; exact runTo_stop (by rw [bt_of hlt]; exact hbl)
        clear hrun
        have hN : nx s k0 = if errP s k = 0 then ⟨⟨kindP s k, s.extract k (endP s k), k⟩, endP s k, 0⟩ else ⟨noWd, k, errP s k⟩ := by
          unfold nx; rw [hE, if_neg (by omega)]
        have HN : Hid (nx s k0 = if errP s k = 0 then ⟨⟨kindP s k, s.extract k (endP s k), k⟩, endP s k, 0⟩ else ⟨noWd, k, errP s k⟩) := hN
        clear hN hE
        have hkz : ((k : Int) == (s.size : Int)) = false := beq_eq_false_iff_ne.2 (by omega)
        have HS : Hid (∀ w, Calls Try.prog 77 #[.string s, .int .i64 k] w fun e w' => e = .returned (.tuple #[.int .i64 (signK s k), .int .i64 (signN s k)]) ∧ w' = w) := fun w => sign_any s k w hs'.out hlt
        have hge := endP_gt s k
        have hle := endP_le hlt
        have hbt := bt_of hlt
        cases hlo : lowZ (bt s k)
        · cases hup : upZ (bt s k)
          · cases h95 : (bt s k == 95)
            · -- a sign, or none
              have h95' : bt s k ≠ 95 := by simpa using h95
              have hsk : signK s k = kindP s k := signK_kind hlo hup h95'
              by_cases hk0z : kindP s k = 0
              · have hsn : signN s k = 0 := by unfold signN; rw [hsk, hk0z]; rfl
                have hN' : Hid (nx s k0 = ⟨noWd, k, 21⟩) := by
                  show nx s k0 = _
                  have he : errP s k = 21 := by simp [errP, badP, hk0z]
                  rw [HN.out, he]; rfl
                rw [hsk, hk0z, hsn] at HS
                rw [hbt] at hlo hup h95
                clear HN hge hle hbt hsk hsn h95' hk0z
                have hlo' : ¬ (97 ≤ ((s[k]'hlt).toNat : Int) ∧ ((s[k]'hlt).toNat : Int) ≤ 122) := by simpa [lowZ] using hlo
                have hup' : ¬ (65 ≤ ((s[k]'hlt).toNat : Int) ∧ ((s[k]'hlt).toNat : Int) ≤ 90) := by simpa [upZ] using hup
                clear hlo hup
                by_cases h97 : 97 ≤ ((s[k]'hlt).toNat : Int)
                · have h122 : ¬ ((s[k]'hlt).toNat : Int) ≤ 122 := by omega
                  have h65 : 65 ≤ ((s[k]'hlt).toNat : Int) := by omega
                  have h90 : ¬ ((s[k]'hlt).toNat : Int) ≤ 90 := by omega
                  clear hlo' hup'
                  go_wp2_with (go_at_call 77; refine (HS.out _).mono ?_; rintro e w1 ⟨rfl, rfl⟩)
                  go_returns
                  exact ⟨by rw [hN'.out]; rfl, (Below.refl _ _).alloc (Nat.le_refl _) _⟩
                · by_cases h65 : 65 ≤ ((s[k]'hlt).toNat : Int)
                  · have h90 : ¬ ((s[k]'hlt).toNat : Int) ≤ 90 := by omega
                    clear hlo' hup'
                    go_wp2_with (go_at_call 77; refine (HS.out _).mono ?_; rintro e w1 ⟨rfl, rfl⟩)
                    go_returns
                    exact ⟨by rw [hN'.out]; rfl, (Below.refl _ _).alloc (Nat.le_refl _) _⟩
                  · clear hlo' hup'
                    go_wp2_with (go_at_call 77; refine (HS.out _).mono ?_; rintro e w1 ⟨rfl, rfl⟩)
                    go_returns
                    exact ⟨by rw [hN'.out]; rfl, (Below.refl _ _).alloc (Nat.le_refl _) _⟩
              · have hk1 : kindP s k ≠ 1 := fun e => by rw [kindP_one e] at hlo; cases hlo
                have hk2 : kindP s k ≠ 2 := fun e => by
                  rcases kindP_two e with h | h
                  · rw [h] at hup; cases hup
                  · exact h95' h
                have hsmall := endP_sign hk1 hk2
                obtain ⟨n, hn⟩ : ∃ n : Nat, signN s k = n ∧ k + n = endP s k := by
                  unfold signN endP lenK
                  have e0 : (kindP s k == 0) = false := by simpa using hk0z
                  have e1 : (kindP s k == 1) = false := by simpa using hk1
                  have e2 : (kindP s k == 2) = false := by simpa using hk2
                  rw [hsk, e0, e1, e2]
                  cases (kindP s k == 7)
                  · exact ⟨1, rfl, rfl⟩
                  · exact ⟨2, rfl, rfl⟩
                have hN' : Hid (nx s k0 = ⟨⟨kindP s k, s.extract k (endP s k), k⟩, endP s k, 0⟩) := by
                  show nx s k0 = _
                  have he : errP s k = 0 := by
                    have : ¬ k + 12 < endP s k := by omega
                    simp [errP, badP, hk0z, h95', this]
                  rw [HN.out, he]; rfl
                rw [hsk, hn.1] at HS
                have hkb : (kindP s k != 0) = true := by simpa using hk0z
                obtain ⟨E, hE⟩ : ∃ E, E = endP s k := ⟨_, rfl⟩
                obtain ⟨kd, hkd⟩ : ∃ kd, kd = kindP s k := ⟨_, rfl⟩
                have hkn := hn.2
                rw [← hE] at hkn hN' hge hle hsmall
                rw [← hkd] at HS hN' hkb
                clear HN hbt hsk hn h95' hk0z hk1 hk2 hkd hE hlo hup h95
                go_wp2_with (go_at_call 77; refine (HS.out _).mono ?_; rintro e w1 ⟨rfl, rfl⟩)
                go_returns
                have hE : (E : Int) = k + n := by omega
                exact ⟨by rw [hN'.out]; simp only [Nx.val, hE]; rfl, (Below.refl _ _).alloc (Nat.le_refl _) _⟩
            · -- an underscore
              have hu : bt s k = 95 := by simpa using h95
              have hsk : signK s k = 0 := signK_none (.inr (.inr hu))
              have hsn : signN s k = 0 := by unfold signN; rw [hsk]; rfl
              have HR : Hid (∀ w, Calls Try.prog 78 #[.string s, .int .i64 ((k : Int) + 1), .bool false, .bool false] w fun e w' => e = .returned (.int .i64 (endP s k)) ∧ w' = w) := fun w => by
                have := rrun_any s (k + 1) false false w hs'.out hlt
                rw [run_under hu] at this
                exact this
              have hkp := kindP_of_under hu
              rw [hkp] at HN
              rw [hsk, hsn] at HS
              rw [hbt] at h95
              have hc : ((s[k]'hlt).toNat : Int) = 95 := by simpa using h95
              have h97 : ¬ 97 ≤ ((s[k]'hlt).toNat : Int) := by omega
              have h65 : 65 ≤ ((s[k]'hlt).toNat : Int) := by omega
              have h90 : ¬ ((s[k]'hlt).toNat : Int) ≤ 90 := by omega
              clear hc
              by_cases hone : endP s k = k + 1
              · have hN' : Hid (nx s k0 = ⟨noWd, k, 21⟩) := by
                  show nx s k0 = _
                  have he : errP s k = 21 := by simp [errP, badP, hu, hone]
                  rw [HN.out, he]; rfl
                rw [hone] at HR
                clear HN hbt hsk hsn hkp hlo hup hu hge hle hone
                go_wp2_with (first | (go_at_call 77; refine (HS.out _).mono ?_; rintro e w1 ⟨rfl, rfl⟩) | (go_at_call 78; refine (HR.out _).mono ?_; rintro e w1 ⟨rfl, rfl⟩))
                go_returns
                exact ⟨by rw [hN'.out]; rfl, (Below.refl _ _).alloc (Nat.le_refl _) _⟩
              · have h1s : k + 1 < s.size := by omega
                have h1i : (k : Int) + 1 < (s.size : Int) := by omega
                have honeB : ((endP s k : Int) == (k : Int) + 1) = false := beq_eq_false_iff_ne.2 (by omega)
                have hbt1 := bt_of h1s
                cases h48 : (((s[k + 1]'h1s).toNat : Int) == 48)
                · have h48' : bt s (k + 1) ≠ 48 := by rw [hbt1]; simpa using h48
                  have hbad : badP s k = false := by simp [badP, hkp, hone, h48']
                  have he : errP s k = if k + 12 < endP s k then 22 else 0 := by unfold errP; rw [hbad]; rfl
                  by_cases hl : k + 12 < endP s k
                  · have hN' : Hid (nx s k0 = ⟨noWd, k, 22⟩) := by
                      show nx s k0 = _
                      rw [if_pos hl] at he
                      rw [HN.out, he]; rfl
                    obtain ⟨E, hE⟩ : ∃ E, E = endP s k := ⟨_, rfl⟩
                    rw [← hE] at hl HR hge hle honeB
                    clear HN hbt hbt1 hsk hsn he hbad hkp hE hlo hup hu hone h48'
                    have hl' : 12 < (E : Int) - (k : Int) := by omega
                    go_wp2_with (first | (go_at_call 77; refine (HS.out _).mono ?_; rintro e w1 ⟨rfl, rfl⟩) | (go_at_call 78; refine (HR.out _).mono ?_; rintro e w1 ⟨rfl, rfl⟩))
                    go_returns
                    exact ⟨by rw [hN'.out]; rfl, (Below.refl _ _).alloc (Nat.le_refl _) _⟩
                  · have hN' : Hid (nx s k0 = ⟨⟨2, s.extract k (endP s k), k⟩, endP s k, 0⟩) := by
                      show nx s k0 = _
                      rw [if_neg hl] at he
                      rw [HN.out, he]; rfl
                    obtain ⟨E, hE⟩ : ∃ E, E = endP s k := ⟨_, rfl⟩
                    rw [← hE] at hl HR hge hle hN' honeB
                    clear HN hbt hbt1 hsk hsn he hbad hkp hE hlo hup hu hone h48'
                    have hl' : ¬ 12 < (E : Int) - (k : Int) := by omega
                    go_wp2_with (first | (go_at_call 77; refine (HS.out _).mono ?_; rintro e w1 ⟨rfl, rfl⟩) | (go_at_call 78; refine (HR.out _).mono ?_; rintro e w1 ⟨rfl, rfl⟩))
                    go_returns
                    exact ⟨by rw [hN'.out]; rfl, (Below.refl _ _).alloc (Nat.le_refl _) _⟩
                · have hN' : Hid (nx s k0 = ⟨noWd, k, 21⟩) := by
                    show nx s k0 = _
                    have h48' : bt s (k + 1) = 48 := by rw [hbt1]; simpa using h48
                    have he : errP s k = 21 := by simp [errP, badP, hu, h48']
                    rw [HN.out, he]; rfl
                  obtain ⟨E, hE⟩ : ∃ E, E = endP s k := ⟨_, rfl⟩
                  rw [← hE] at HR hge hle honeB
                  clear HN hbt hbt1 hsk hsn hkp hE hlo hup hu hone
                  go_wp2_with (first | (go_at_call 77; refine (HS.out _).mono ?_; rintro e w1 ⟨rfl, rfl⟩) | (go_at_call 78; refine (HR.out _).mono ?_; rintro e w1 ⟨rfl, rfl⟩))
                  go_returns
                  exact ⟨by rw [hN'.out]; rfl, (Below.refl _ _).alloc (Nat.le_refl _) _⟩
          · -- a variable
            have hsk : signK s k = 0 := signK_none (.inr (.inl hup))
            have hsn : signN s k = 0 := by unfold signN; rw [hsk]; rfl
            have HR : Hid (∀ w, Calls Try.prog 78 #[.string s, .int .i64 k, .bool true, .bool true] w fun e w' => e = .returned (.int .i64 (endP s k)) ∧ w' = w) := fun w => by
              have := rrun_any s k true true w hs'.out hk
              rwa [run_great hlt hup] at this
            have hkp := kindP_of_up hup
            have hbad : badP s k = false := by
              have : bt s k ≠ 95 := by intro e; rw [e] at hup; simp [upZ] at hup
              simp [badP, hkp, this]
            have he : errP s k = if k + 12 < endP s k then 22 else 0 := by unfold errP; rw [hbad]; rfl
            rw [hkp] at HN
            rw [hsk, hsn] at HS
            have hr : 65 ≤ ((s[k]'hlt).toNat : Int) ∧ ((s[k]'hlt).toNat : Int) ≤ 90 := by rw [hbt] at hup; simpa [upZ] using hup
            have h65 := hr.1
            have h90 := hr.2
            have h97 : ¬ 97 ≤ ((s[k]'hlt).toNat : Int) := by omega
            clear hr
            by_cases hl : k + 12 < endP s k
            · have hN' : Hid (nx s k0 = ⟨noWd, k, 22⟩) := by
                show nx s k0 = _
                rw [if_pos hl] at he
                rw [HN.out, he]; rfl
              obtain ⟨E, hE⟩ : ∃ E, E = endP s k := ⟨_, rfl⟩
              rw [← hE] at hl HR hge hle
              clear HN hbt hsk hsn he hbad hkp hE hlo hup
              have hl' : 12 < (E : Int) - (k : Int) := by omega
              go_wp2_with (first | (go_at_call 77; refine (HS.out _).mono ?_; rintro e w1 ⟨rfl, rfl⟩) | (go_at_call 78; refine (HR.out _).mono ?_; rintro e w1 ⟨rfl, rfl⟩))
              go_returns
              exact ⟨by rw [hN'.out]; rfl, (Below.refl _ _).alloc (Nat.le_refl _) _⟩
            · have hN' : Hid (nx s k0 = ⟨⟨2, s.extract k (endP s k), k⟩, endP s k, 0⟩) := by
                show nx s k0 = _
                rw [if_neg hl] at he
                rw [HN.out, he]; rfl
              obtain ⟨E, hE⟩ : ∃ E, E = endP s k := ⟨_, rfl⟩
              rw [← hE] at hl HR hge hle hN'
              clear HN hbt hsk hsn he hbad hkp hE hlo hup
              have hl' : ¬ 12 < (E : Int) - (k : Int) := by omega
              go_wp2_with (first | (go_at_call 77; refine (HS.out _).mono ?_; rintro e w1 ⟨rfl, rfl⟩) | (go_at_call 78; refine (HR.out _).mono ?_; rintro e w1 ⟨rfl, rfl⟩))
              go_returns
              exact ⟨by rw [hN'.out]; rfl, (Below.refl _ _).alloc (Nat.le_refl _) _⟩
        · -- a name
          have hsk : signK s k = 0 := signK_none (.inl hlo)
          have hsn : signN s k = 0 := by unfold signN; rw [hsk]; rfl
          have HR : Hid (∀ w, Calls Try.prog 78 #[.string s, .int .i64 k, .bool true, .bool false] w fun e w' => e = .returned (.int .i64 (endP s k)) ∧ w' = w) := fun w => by
            have := rrun_any s k true false w hs'.out hk
            rwa [run_name hlt hlo] at this
          have hkp := kindP_of_low hlo
          have hbad : badP s k = false := by
            have : bt s k ≠ 95 := by intro e; rw [e] at hlo; simp [lowZ] at hlo
            simp [badP, hkp, this]
          have he : errP s k = if k + 12 < endP s k then 22 else 0 := by unfold errP; rw [hbad]; rfl
          rw [hkp] at HN
          rw [hsk, hsn] at HS
          have hr : 97 ≤ ((s[k]'hlt).toNat : Int) ∧ ((s[k]'hlt).toNat : Int) ≤ 122 := by rw [hbt] at hlo; simpa [lowZ] using hlo
          have h97 := hr.1
          have h122 := hr.2
          clear hr
          by_cases hl : k + 12 < endP s k
          · have hN' : Hid (nx s k0 = ⟨noWd, k, 22⟩) := by
              show nx s k0 = _
              rw [if_pos hl] at he
              rw [HN.out, he]; rfl
            obtain ⟨E, hE⟩ : ∃ E, E = endP s k := ⟨_, rfl⟩
            rw [← hE] at hl HR hge hle
            clear HN hbt hsk hsn he hbad hkp hE hlo
            have hl' : 12 < (E : Int) - (k : Int) := by omega
            go_wp2_with (first | (go_at_call 77; refine (HS.out _).mono ?_; rintro e w1 ⟨rfl, rfl⟩) | (go_at_call 78; refine (HR.out _).mono ?_; rintro e w1 ⟨rfl, rfl⟩))
            go_returns
            exact ⟨by rw [hN'.out]; rfl, (Below.refl _ _).alloc (Nat.le_refl _) _⟩
          · have hN' : Hid (nx s k0 = ⟨⟨1, s.extract k (endP s k), k⟩, endP s k, 0⟩) := by
              show nx s k0 = _
              rw [if_neg hl] at he
              rw [HN.out, he]; rfl
            obtain ⟨E, hE⟩ : ∃ E, E = endP s k := ⟨_, rfl⟩
            rw [← hE] at hl HR hge hle hN'
            clear HN hbt hsk hsn he hbad hkp hE hlo
            have hl' : ¬ 12 < (E : Int) - (k : Int) := by omega
            go_wp2_with (first | (go_at_call 77; refine (HS.out _).mono ?_; rintro e w1 ⟨rfl, rfl⟩) | (go_at_call 78; refine (HR.out _).mono ?_; rintro e w1 ⟨rfl, rfl⟩))
            go_returns
            exact ⟨by rw [hN'.out]; rfl, (Below.refl _ _).alloc (Nat.le_refl _) _⟩
      · have hE : Hid (runTo blank s (k + 1) = runTo blank s k0) := by
          show _ = _; rw [← hrun]; exact (runTo_step hlt (by rw [bt_of hlt]; exact hbl)).symm
        clear hrun
        go_wp2
        go_round
        case rel => exact ⟨k + 1, by omega, by go_num, hE.out⟩
        case measure => simp [intOf]; omega
    · obtain rfl : k = s.size := by omega
      have hN : Hid (nx s k0 = ⟨noWd, s.size, 0⟩) := by
        show nx s k0 = _
        have hE : runTo blank s k0 = s.size := by rw [← hrun]; exact runTo_end (Nat.le_refl _)
        unfold nx; rw [hE, if_pos (Nat.le_refl _)]
      clear hrun
      go_wp2
      go_returns
      exact ⟨by rw [hN.out]; rfl, (Below.refl _ _).alloc (Nat.le_refl _) _⟩
end Go.Proofs.Ytkcbhbkldcebiaa
