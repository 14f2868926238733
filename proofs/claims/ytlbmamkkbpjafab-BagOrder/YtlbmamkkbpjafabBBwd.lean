/- What slices.Backward hands out of a row of counts, to any loop. -/
import Derived.Test.YtlbmamkkbpjafabRng
namespace Go.Proofs.Ytlbmamkkbpjafab
open Go.RowKit Go.Shelf

attribute [local go_sem] Oper.semAt_some

theorem grown_of_below {A B : World} (h : Below A.heap.size A B) : A.grownBy B none := ⟨h.os, h.tape, h.output, h.size, fun k hk _ => h.block k hk⟩
set_option maxRecDepth 100000 in
set_option maxHeartbeats 2000000 in
theorem back_in (m : Nat) (hm : 1 ≤ m) (l Bn : Nat) (q : Option Addr) (n d : Nat) (hn : n ≤ 1048576) (J : Nat → World → Prop) (Jx : World → Prop)
    (hrow : ∀ k W, k < n → J k W → Boxed W Bn 53 (.slice q n d) ∧ ∃ g x, q = some ⟨g, 0, none⟩ ∧ W.cell? ⟨g, n - 1 - k, none⟩ = some (.int .i64 x))
    (hY : ∀ k W x, k < n → J k W → YieldAt Fence.wide (m - 1) Try.prog l #[.int .i64 ((n - 1 - k : Nat) : Int), .int .i64 x] W fun e W' => (e = .returned (.bool true) ∧ J (k + 1) W') ∨ (e = .returned (.bool false) ∧ Jx W'))
    (W : World) (hBn : Boxed W Bn 53 (.slice q n d)) (h0 : J 0 W) :
    CallsIn Fence.wide m Try.prog 39 #[.func (.yield l) #[] #[], .pointer (some ⟨Bn, 0, none⟩)] W fun e W' => (∃ v, e = .returned v) ∧ (J n W' ∨ Jx W') := by
  have HR := hid hrow; have HY := hid hY; have H0 := hid h0
  have c0 := hBn.cell
  clear hrow hY h0
  refine callsIn_of_wp Try.func39 rfl trivial ?_ rfl
  simp only [Try.ntmps39, List.size_toArray, List.length_cons, List.length_nil, Nat.reduceAdd, Nat.reduceSub, Array.replicate_succ, Array.replicate_zero, List.push_toArray, List.append_toArray, List.nil_append, List.cons_append]
  have hnz : (n : Int) ≤ 1048576 := by omega
  gi_wp2
  gi_loopw [3] (fun p wr => ∃ k : Nat, k ≤ n ∧ p = .int .i64 ((n : Int) - 1 - k) ∧ J k wr) (fun p _ => (intOf p + 1).toNat)
  case atStart => exact ⟨0, Nat.zero_le _, by simp, H0.out⟩
  case round =>
    obtain ⟨k, hk, rfl, hj⟩ := hrel
    have HJ := hid hj
    clear hj
    by_cases hlt : k < n
    · obtain ⟨hbx, g, x, rfl, hc⟩ := HR.out k wr hlt HJ.out
      have cb := hbx.cell
      obtain ⟨fn, tmps, assign, body, hy, hR⟩ := HY.out k wr x hlt HJ.out
      have HRR := hid hR
      have he : (n : Int) - 1 - k = ((n - 1 - k : Nat) : Int) := by omega
      rw [he]
      obtain ⟨i, hi⟩ : ∃ i, n - 1 - k = i := ⟨_, rfl⟩
      rw [hi] at hc hy he ⊢
      have hin : (i : Int) < (n : Int) := by omega
      have HI := hid hi
      clear hi he hbx hR
      gi_wp2
      refine HRR.out.mono ?_
      rintro e W3 (⟨rfl, hJ3⟩ | ⟨rfl, hJx3⟩)
      · gi_wp2
        go_roundw
        case rel => exact ⟨k + 1, by omega, by have := HI.out; simp; omega, hJ3⟩
        case measure => simp [intOf]
      · gi_wp2
        refine bodyPost_ret (results_none rfl _ _ _) rfl ?_
        exact ⟨⟨_, rfl⟩, .inr hJx3⟩
    · obtain rfl : k = n := by omega
      rw [show (k : Int) - 1 - k = -1 by omega]
      gi_wp2
      refine bodyPost_end (results_none rfl _ _ _) rfl ?_
      exact ⟨⟨_, rfl⟩, .inl HJ.out⟩
/-- Backward hands back a value that goes through a row from its end. -/
theorem backward_any (q : Option Addr) (n d : Nat) (w : World) : Calls Try.prog 36 #[.slice q n d] w fun e w' => e = .returned (.func (.func 39) #[] #[.pointer (some ⟨w.heap.size, 0, none⟩)]) ∧ w' = w.alloc (.cells #[.slice q n d] 53) := by
  go_enter Try.func36, Try.ntmps36
  go_wp2
  go_ret
  exact ⟨rfl, rfl⟩
end Go.Proofs.Ytlbmamkkbpjafab
