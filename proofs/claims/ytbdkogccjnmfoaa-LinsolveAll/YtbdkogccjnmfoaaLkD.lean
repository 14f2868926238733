/- The document's times, Below, ahead; rises. -/
import Derived.Test.YtbdkogccjnmfoaaLkA
import Derived.BigQuiet
namespace Go.Proofs.Ytbdkogccjnmfoaa
open Go.RowKit Go.Shelf

theorem IntsAt.drewN {w : World} {p : Option Addr} {l : List Int} (h : IntsAt w p l) (n : Nat) : IntsAt (w.drewN n) p l := ⟨h.small, fun i hi => let ⟨x, o, e1, e2⟩ := h.cells i hi; ⟨x, o, e1, by simp only [World.cell?, heap_drewN] at e2 ⊢; exact e2⟩⟩
theorem drew_more {w wr : World} (h : ∃ n, wr = w.drewN n) (k : Nat) : ∃ n, wr.drewN k = w.drewN n := by
  obtain ⟨n, rfl⟩ := h
  exact ⟨n + k, by rw [World.drewN_drewN]⟩
/-- Ahead, by the first number in which they differ. -/
def ahdV : List Int → List Int → Bool
  | x :: v, y :: w => if x = y then ahdV v w else decide (x < y)
  | _, _ => false
theorem ahd_nil (w : List Int) : ahdV [] w = false := by cases w <;> rfl
theorem belV_cons (x y : Int) (v w : List Int) : belV (x :: v) (y :: w) = (decide (x ≤ y) && belV v w) := rfl
theorem belV_nil (w : List Int) : belV [] w = true := rfl
set_option maxRecDepth 100000 in
set_option maxHeartbeats 2000000 in
theorem times_any (p : Option Addr) (c : Nat) (ks : List Int) (q : Option Addr) (d : Nat) (ns : List Int) (w : World) (hK : IntsAt w p ks) (hN : IntsAt w q ns) (hk : Coe ks) (hn : Cnt ns) (h5 : ks.length ≤ 5) (hle : ks.length ≤ ns.length) :
    Calls Try.prog 42 #[.slice p ks.length c, .slice q ns.length d] w fun e w' => e = .returned (.int .i64 (prodI ks ns)) ∧ ∃ n, w' = w.drewN n := by
  have HK := hid hK; have HN := hid hN; have HCK := hid hk; have HCN := hid hn
  have hmax : maxLen = 9223372036854775807 := rfl
  have hs1 := hK.small; have hs2 := hN.small
  obtain ⟨T, hT⟩ : ∃ T, prodI ks ns = T := ⟨_, rfl⟩
  rw [hT]
  have HT := hid hT
  clear hK hN hk hn hT
  go_enter Try.func42, Try.ntmps42
  go_wp2_with fail
  go_loopw [5, 6] (fun sv iv wr => ∃ (j : Nat) (acc : Int), j ≤ ks.length ∧ iv = .int .i64 j ∧ sv = .int .i64 acc ∧ acc + prodI (ks.drop j) (ns.drop j) = T ∧ 0 ≤ acc ∧ acc ≤ j * 6291456 ∧ ∃ n, wr = w.drewN n) (fun _ iv _ => ks.length - (intOf iv).toNat)
  case atStart => exact ⟨0, 0, Nat.zero_le _, rfl, rfl, by rw [← HT.out]; simp, by omega, by omega, 0, rfl⟩
  case round =>
    obtain ⟨j, acc, hj, rfl, rfl, hf, ha0, ha1, hwr⟩ := hrel
    rename World => wr
    have HW := hid hwr
    by_cases hlt : j < ks.length
    · have hlt2 : j < ns.length := by omega
      obtain ⟨nw, hnw⟩ := hwr
      have HK' := HK.out.drewN nw; have HN' := HN.out.drewN nw
      rw [← hnw] at HK' HN'
      obtain ⟨b, o, rfl, hc⟩ := HK'.cells j hlt
      obtain ⟨b2, o2, rfl, hc2⟩ := HN'.cells j hlt2
      rw [List.drop_eq_getElem_cons hlt, List.drop_eq_getElem_cons hlt2, prodI] at hf
      have g1 := HCK.out.get j hlt
      have g2 := HCN.out.get j hlt2
      obtain ⟨k, hk⟩ : ∃ k, ks[j] = k := ⟨_, rfl⟩
      obtain ⟨n, hn⟩ : ∃ n, ns[j] = n := ⟨_, rfl⟩
      rw [hk, hn] at hf
      rw [hk] at hc g1
      rw [hn] at hc2 g2
      have h0 : 0 ≤ k * n := Int.mul_nonneg (by omega) g2.1
      have h1 : k * n ≤ 6 * 1048576 := Int.mul_le_mul g1.2 g2.2 g2.1 (by decide)
      obtain ⟨m, hm⟩ : ∃ m, k * n = m := ⟨_, rfl⟩
      rw [hm] at hf h0 h1
      have e1 : IntKind.i64.wrap (k * n) = m := by rw [hm]; exact IntWalk.i64_in _ (by constructor <;> omega)
      have e2 : IntKind.i64.wrap (acc + m) = acc + m := IntWalk.i64_in _ (by constructor <;> omega)
      have HF : Hid (acc + m + prodI (ks.drop (j + 1)) (ns.drop (j + 1)) = T ∧ 0 ≤ acc + m ∧ acc + m ≤ ((j + 1 : Nat) : Int) * 6291456) := hid ⟨by omega, by omega, by omega⟩
      clear hf hk hn hm hnw HK' HN'
      go_wp2_with fail
      go_big_quiet (fail)
      go_wp2_with fail
      go_roundw
      case rel => exact ⟨j + 1, acc + m, by omega, by go_num, rfl, HF.out.1, HF.out.2.1, HF.out.2.2, drew_more HW.out _⟩
      case measure => simp [intOf]; omega
    · have e1 : j = ks.length := by omega
      rw [List.drop_eq_nil_of_le (by omega : ks.length ≤ j), prodI_nil] at hf
      have HF : Hid (acc = T) := hid (by omega)
      clear hf hwr
      go_wp2_with fail
      go_ret
      exact ⟨by rw [HF.out]; rfl, HW.out⟩
set_option maxRecDepth 100000 in
set_option maxHeartbeats 2000000 in
theorem below_any (p : Option Addr) (c : Nat) (vs : List Int) (q : Option Addr) (d : Nat) (us : List Int) (w : World) (hK : IntsAt w p vs) (hN : IntsAt w q us) (hle : vs.length = us.length) :
    Calls Try.prog 44 #[.slice p vs.length c, .slice q us.length d] w fun e w' => e = .returned (.bool (belV vs us)) ∧ ∃ n, w' = w.drewN n := by
  have HK := hid hK; have HN := hid hN
  have hmax : maxLen = 9223372036854775807 := rfl
  have hs1 := hK.small; have hs2 := hN.small
  obtain ⟨T, hT⟩ : ∃ T, belV vs us = T := ⟨_, rfl⟩
  rw [hT]
  have HT := hid hT
  have HLE := hid hle
  clear hK hN hT
  go_enter Try.func44, Try.ntmps44
  go_wp2_with fail
  go_loopw [5] (fun iv wr => ∃ (j : Nat), j ≤ vs.length ∧ iv = .int .i64 j ∧ belV (vs.drop j) (us.drop j) = T ∧ ∃ n, wr = w.drewN n) (fun iv _ => vs.length - (intOf iv).toNat)
  case atStart => exact ⟨0, Nat.zero_le _, rfl, by rw [← HT.out]; simp, 0, rfl⟩
  case round =>
    obtain ⟨j, hj, rfl, hf, hwr⟩ := hrel
    rename World => wr
    have HW := hid hwr
    by_cases hlt : j < vs.length
    · have hlt2 : j < us.length := by omega
      obtain ⟨nw, hnw⟩ := hwr
      have HK' := HK.out.drewN nw; have HN' := HN.out.drewN nw
      rw [← hnw] at HK' HN'
      obtain ⟨b, o, rfl, hc⟩ := HK'.cells j hlt
      obtain ⟨b2, o2, rfl, hc2⟩ := HN'.cells j hlt2
      rw [List.drop_eq_getElem_cons hlt, List.drop_eq_getElem_cons hlt2, belV_cons] at hf
      obtain ⟨k, hk⟩ : ∃ k, vs[j] = k := ⟨_, rfl⟩
      obtain ⟨n, hn⟩ : ∃ n, us[j] = n := ⟨_, rfl⟩
      rw [hk, hn] at hf
      rw [hk] at hc
      rw [hn] at hc2
      by_cases hkn : k ≤ n
      · have hnk : ¬ n < k := by omega
        rw [decide_eq_true hkn, Bool.true_and] at hf
        have HF := hid hf
        clear hf hk hn hnw HK' HN' hle
        go_wp2_with fail
        go_big_quiet (fail)
        go_wp2_with fail
        go_roundw
        case rel => exact ⟨j + 1, by omega, by go_num, HF.out, drew_more HW.out _⟩
        case measure => simp [intOf]; omega
      · have hnk : n < k := by omega
        rw [decide_eq_false hkn, Bool.false_and] at hf
        have HF := hid hf
        clear hf hk hn hnw HK' HN' hle hkn
        go_wp2_with fail
        go_big_quiet (fail)
        go_wp2_with fail
        go_ret
        exact ⟨by rw [← HF.out]; rfl, drew_more HW.out _⟩
    · have e1 : j = vs.length := by omega
      rw [List.drop_eq_nil_of_le (by omega : vs.length ≤ j), belV_nil] at hf
      have HF := hid hf
      clear hf hwr hle
      go_wp2_with fail
      go_ret
      exact ⟨by rw [← HF.out]; rfl, HW.out⟩
set_option maxRecDepth 100000 in
set_option maxHeartbeats 2000000 in
theorem ahead_any (p : Option Addr) (c : Nat) (vs : List Int) (q : Option Addr) (d : Nat) (us : List Int) (w : World) (hK : IntsAt w p vs) (hN : IntsAt w q us) (hle : vs.length = us.length) :
    Calls Try.prog 57 #[.slice p vs.length c, .slice q us.length d] w fun e w' => e = .returned (.bool (ahdV vs us)) ∧ ∃ n, w' = w.drewN n := by
  have HK := hid hK; have HN := hid hN
  have hmax : maxLen = 9223372036854775807 := rfl
  have hs1 := hK.small; have hs2 := hN.small
  obtain ⟨T, hT⟩ : ∃ T, ahdV vs us = T := ⟨_, rfl⟩
  rw [hT]
  have HT := hid hT
  have HLE := hid hle
  clear hK hN hT
  go_enter Try.func57, Try.ntmps57
  go_wp2_with fail
  go_loopw [5] (fun iv wr => ∃ (j : Nat), j ≤ vs.length ∧ iv = .int .i64 j ∧ ahdV (vs.drop j) (us.drop j) = T ∧ ∃ n, wr = w.drewN n) (fun iv _ => vs.length - (intOf iv).toNat)
  case atStart => exact ⟨0, Nat.zero_le _, rfl, by rw [← HT.out]; simp, 0, rfl⟩
  case round =>
    obtain ⟨j, hj, rfl, hf, hwr⟩ := hrel
    rename World => wr
    have HW := hid hwr
    by_cases hlt : j < vs.length
    · have hlt2 : j < us.length := by omega
      obtain ⟨nw, hnw⟩ := hwr
      have HK' := HK.out.drewN nw; have HN' := HN.out.drewN nw
      rw [← hnw] at HK' HN'
      obtain ⟨b, o, rfl, hc⟩ := HK'.cells j hlt
      obtain ⟨b2, o2, rfl, hc2⟩ := HN'.cells j hlt2
      rw [List.drop_eq_getElem_cons hlt, List.drop_eq_getElem_cons hlt2, ahdV] at hf
      obtain ⟨k, hk⟩ : ∃ k, vs[j] = k := ⟨_, rfl⟩
      obtain ⟨n, hn⟩ : ∃ n, us[j] = n := ⟨_, rfl⟩
      rw [hk, hn] at hf
      rw [hk] at hc
      rw [hn] at hc2
      by_cases hkn : k = n
      · rw [if_pos hkn] at hf
        subst hkn
        have hne : (k != k) = false := by simp
        have HF := hid hf
        clear hf hk hn hnw HK' HN' hle
        go_wp2_with fail
        go_big_quiet (fail)
        go_wp2_with fail
        go_roundw
        case rel => exact ⟨j + 1, by omega, by go_num, HF.out, drew_more HW.out _⟩
        case measure => simp [intOf]; omega
      · rw [if_neg hkn] at hf
        have hne : (k != n) = true := by simpa using hkn
        have HF := hid hf
        clear hf hk hn hnw HK' HN' hle hkn
        go_wp2_with fail
        go_big_quiet (fail)
        go_wp2_with fail
        go_big_quiet (fail)
        go_wp2_with fail
        go_ret
        exact ⟨by rw [← HF.out]; rfl, drew_more (drew_more HW.out _) _⟩
    · have e1 : j = vs.length := by omega
      rw [List.drop_eq_nil_of_le (by omega : vs.length ≤ j), ahd_nil] at hf
      have HF := hid hf
      clear hf hwr hle
      go_wp2_with fail
      go_ret
      exact ⟨by rw [← HF.out]; rfl, HW.out⟩
end Go.Proofs.Ytbdkogccjnmfoaa
