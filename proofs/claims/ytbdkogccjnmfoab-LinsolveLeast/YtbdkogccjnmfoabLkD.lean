/- Below. -/
import Derived.Test.YtbdkogccjnmfoabLkA
import Derived.BigQuiet
namespace Go.Proofs.Ytbdkogccjnmfoab
open Go.RowKit Go.Shelf

theorem IntsAt.drewN {w : World} {p : Option Addr} {l : List Int} (h : IntsAt w p l) (n : Nat) : IntsAt (w.drewN n) p l := ⟨h.small, fun i hi => let ⟨x, o, e1, e2⟩ := h.cells i hi; ⟨x, o, e1, by simp only [World.cell?, heap_drewN] at e2 ⊢; exact e2⟩⟩
theorem drew_more {w wr : World} (h : ∃ n, wr = w.drewN n) (k : Nat) : ∃ n, wr.drewN k = w.drewN n := by
  obtain ⟨n, rfl⟩ := h
  exact ⟨n + k, by rw [World.drewN_drewN]⟩
/-- Ahead, by the first number in which they differ. -/
def ahdV : List Int → List Int → Bool
  | x :: v, y :: w => if x = y then ahdV v w else decide (x < y)
  | _, _ => false
theorem ahd_nil (w : List Int) : ahdV [] w = false := by cases w <;> rfl
theorem belV_cons (x y : Int) (v w : List Int) : belV (x :: v) (y :: w) = (decide (x ≤ y) && belV v w) := rfl
theorem belV_nil (w : List Int) : belV [] w = true := rfl
set_option maxRecDepth 100000 in
set_option maxHeartbeats 2000000 in
theorem below_any (p : Option Addr) (c : Nat) (vs : List Int) (q : Option Addr) (d : Nat) (us : List Int) (w : World) (hK : IntsAt w p vs) (hN : IntsAt w q us) (hle : vs.length = us.length) :
    Calls Try.prog 9 #[.slice p vs.length c, .slice q us.length d] w fun e w' => e = .returned (.bool (belV vs us)) ∧ ∃ n, w' = w.drewN n := by
  have HK := hid hK; have HN := hid hN
  have hmax : maxLen = 9223372036854775807 := rfl
  have hs1 := hK.small; have hs2 := hN.small
  obtain ⟨T, hT⟩ : ∃ T, belV vs us = T := ⟨_, rfl⟩
  rw [hT]
  have HT := hid hT
  have HLE := hid hle
  clear hK hN hT
  go_enter Try.func9, Try.ntmps9
  go_wp2_with fail
  go_loopw [5] (fun iv wr => ∃ (j : Nat), j ≤ vs.length ∧ iv = .int .i64 j ∧ belV (vs.drop j) (us.drop j) = T ∧ ∃ n, wr = w.drewN n) (fun iv _ => vs.length - (intOf iv).toNat)
  case atStart => exact ⟨0, Nat.zero_le _, rfl, by rw [← HT.out]; simp, 0, rfl⟩
  case round =>
    obtain ⟨j, hj, rfl, hf, hwr⟩ := hrel
    rename World => wr
    have HW := hid hwr
    by_cases hlt : j < vs.length
    · have hlt2 : j < us.length := by omega
      obtain ⟨nw, hnw⟩ := hwr
      have HK' := HK.out.drewN nw; have HN' := HN.out.drewN nw
      rw [← hnw] at HK' HN'
      obtain ⟨b, o, rfl, hc⟩ := HK'.cells j hlt
      obtain ⟨b2, o2, rfl, hc2⟩ := HN'.cells j hlt2
      rw [List.drop_eq_getElem_cons hlt, List.drop_eq_getElem_cons hlt2, belV_cons] at hf
      obtain ⟨k, hk⟩ : ∃ k, vs[j] = k := ⟨_, rfl⟩
      obtain ⟨n, hn⟩ : ∃ n, us[j] = n := ⟨_, rfl⟩
      rw [hk, hn] at hf
      rw [hk] at hc
      rw [hn] at hc2
      by_cases hkn : k ≤ n
      · have hnk : ¬ n < k := by omega
        rw [decide_eq_true hkn, Bool.true_and] at hf
        have HF := hid hf
        clear hf hk hn hnw HK' HN' hle
        go_wp2_with fail
        go_big_quiet (fail)
        go_wp2_with fail
        go_roundw
        case rel => exact ⟨j + 1, by omega, by go_num, HF.out, drew_more HW.out _⟩
        case measure => simp [intOf]; omega
      · have hnk : n < k := by omega
        rw [decide_eq_false hkn, Bool.false_and] at hf
        have HF := hid hf
        clear hf hk hn hnw HK' HN' hle hkn
        go_wp2_with fail
        go_big_quiet (fail)
        go_wp2_with fail
        go_ret
        exact ⟨by rw [← HF.out]; rfl, drew_more HW.out _⟩
    · have e1 : j = vs.length := by omega
      rw [List.drop_eq_nil_of_le (by omega : vs.length ≤ j), belV_nil] at hf
      have HF := hid hf
      clear hf hwr hle
      go_wp2_with fail
      go_ret
      exact ⟨by rw [← HF.out]; rfl, HW.out⟩
end Go.Proofs.Ytbdkogccjnmfoab
