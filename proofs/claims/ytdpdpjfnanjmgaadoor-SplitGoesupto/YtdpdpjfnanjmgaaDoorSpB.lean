/- What slices.Backward hands out of a row of counts, to any loop. -/
import Derived.Test.YtdpdpjfnanjmgaaDoorSpA
import Derived.RangeFuncBox
namespace Go.Proofs.YtdpdpjfnanjmgaaDoor
open Go.RowKit Go.Shelf

attribute [local go_sem] Oper.semAt_some

set_option maxRecDepth 100000 in
set_option maxHeartbeats 2000000 in
theorem back_in (m : Nat) (hm : 1 ≤ m) (l Bn : Nat) (q : Option Addr) (n d : Nat) (hn : n ≤ 1048576) (J : Nat → World → Prop) (Jx : World → Prop)
    (hrow : ∀ k W, k < n → J k W → Boxed W Bn 23 (.slice q n d) ∧ ∃ g o x, q = some ⟨g, o, none⟩ ∧ W.cell? ⟨g, o + (n - 1 - k), none⟩ = some (.int .i64 x))
    (hY : ∀ k W x, k < n → J k W → (∀ g o, q = some ⟨g, o, none⟩ → W.cell? ⟨g, o + (n - 1 - k), none⟩ = some (.int .i64 x)) → YieldAt Fence.wide (m - 1) Tryd.prog l #[.int .i64 ((n - 1 - k : Nat) : Int), .int .i64 x] W fun e W' => (e = .returned (.bool true) ∧ J (k + 1) W') ∨ (e = .returned (.bool false) ∧ Jx W'))
    (W : World) (hBn : Boxed W Bn 23 (.slice q n d)) (h0 : J 0 W) :
    CallsIn Fence.wide m Tryd.prog 38 #[.func (.yield l) #[] #[], .pointer (some ⟨Bn, 0, none⟩)] W fun e W' => (∃ v, e = .returned v) ∧ (J n W' ∨ Jx W') := by
  have HR := hid hrow; have HY := hid hY; have H0 := hid h0
  have c0 := hBn.cell
  clear hrow hY h0
  refine callsIn_of_wp Tryd.func38 rfl trivial ?_ rfl
  simp only [Tryd.ntmps38, List.size_toArray, List.length_cons, List.length_nil, Nat.reduceAdd, Nat.reduceSub, Array.replicate_succ, Array.replicate_zero, List.push_toArray, List.append_toArray, List.nil_append, List.cons_append]
  have hnz : (n : Int) ≤ 1048576 := by omega
  gi_wp2
  gi_loopw [3] (fun p wr => ∃ k : Nat, k ≤ n ∧ p = .int .i64 ((n : Int) - 1 - k) ∧ J k wr) (fun p _ => (intOf p + 1).toNat)
  case atStart => exact ⟨0, Nat.zero_le _, by simp, H0.out⟩
  case round =>
    obtain ⟨k, hk, rfl, hj⟩ := hrel
    have HJ := hid hj
    clear hj
    by_cases hlt : k < n
    · obtain ⟨hbx, g, o, x, rfl, hc⟩ := HR.out k wr hlt HJ.out
      have cb := hbx.cell
      obtain ⟨fn, tmps, assign, body, hy, hR⟩ := HY.out k wr x hlt HJ.out (fun g' o' e => by cases e; exact hc)
      have HRR := hid hR
      have he : (n : Int) - 1 - k = ((n - 1 - k : Nat) : Int) := by omega
      rw [he]
      obtain ⟨i, hi⟩ : ∃ i, n - 1 - k = i := ⟨_, rfl⟩
      rw [hi] at hc hy he ⊢
      have hin : (i : Int) < (n : Int) := by omega
      have HI := hid hi
      clear hi he hbx hR
      gi_wp2
      refine HRR.out.mono ?_
      rintro e W3 (⟨rfl, hJ3⟩ | ⟨rfl, hJx3⟩)
      · gi_wp2
        go_roundw
        case rel => exact ⟨k + 1, by omega, by have := HI.out; simp; omega, hJ3⟩
        case measure => simp [intOf]
      · gi_wp2
        refine bodyPost_ret (results_none rfl _ _ _) rfl ?_
        exact ⟨⟨_, rfl⟩, .inr hJx3⟩
    · obtain rfl : k = n := by omega
      rw [show (k : Int) - 1 - k = -1 by omega]
      gi_wp2
      refine bodyPost_end (results_none rfl _ _ _) rfl ?_
      exact ⟨⟨_, rfl⟩, .inl HJ.out⟩
/-- Backward hands back a value that goes through a row from its end. -/
theorem backward_any (q : Option Addr) (n d : Nat) (w : World) : Calls Tryd.prog 36 #[.slice q n d] w fun e w' => e = .returned (.func (.func 38) #[] #[.pointer (some ⟨w.heap.size, 0, none⟩)]) ∧ w' = w.alloc (.cells #[.slice q n d] 23) := by
  go_enter Tryd.func36, Tryd.ntmps36
  go_wp2
  go_ret
  exact ⟨rfl, rfl⟩
end Go.Proofs.YtdpdpjfnanjmgaaDoor
