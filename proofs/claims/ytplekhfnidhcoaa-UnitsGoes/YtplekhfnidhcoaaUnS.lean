/- What All's function value hands out, to any loop. -/
import Derived.Test.YtplekhfnidhcoaaUnR
namespace Go.Proofs.Ytplekhfnidhcoaa
open Go.RowKit Go.Shelf Go.Deep

attribute [local go_sem] Oper.semAt_some

theorem many_pos (u n : Nat) : ∃ M : Nat, manyO u n 9223372036854775807 = (M : Int) ∧ (M : Int) ≤ 9223372036854775807 ∧ ∀ k : Nat, k < M → k < (u + 1) ^ n := by
  unfold manyO
  rw [if_neg (by omega)]
  by_cases h : ((u + 1) ^ n : Nat) ≤ (9223372036854775807 : Int).toNat
  · rw [if_pos h]
    exact ⟨_, rfl, by omega, fun k hk => hk⟩
  · rw [if_neg h]
    exact ⟨9223372036854775807, rfl, by omega, fun k hk => by omega⟩
set_option maxRecDepth 100000 in
set_option maxHeartbeats 4000000 in
theorem all_in (m : Nat) (hm : 1 ≤ m) (l E0 E1 : Nat) (q0 : Option Addr) (d0 : Nat) (us : List Int) (q1 : Option Addr) (d1 : Nat) (vs : List ByteArray) (hu : us.length ≤ 17592186044416) (hv : vs.length ≤ 17592186044416) (M : Nat) (hM : manyO us.length vs.length 9223372036854775807 = (M : Int)) (hM2 : (M : Int) ≤ 9223372036854775807) (J : Nat → World → Prop) (Jx : World → Prop)
    (hrow : ∀ k W, J k W → AllAt W E0 E1 q0 d0 us q1 d1 vs)
    (hY : ∀ k W0 W v, k < M → J k W0 → Below W0.heap.size W0 W → BOwn W W0.heap.size v (wayO us vs (k : Int)).1 → YieldAt Fence.wide (m - 1) Try.prog l #[v] W fun e W' => (e = .returned (.bool true) ∧ J (k + 1) W') ∨ (e = .returned (.bool false) ∧ Jx W'))
    (W : World) (h0 : J 0 W) :
    CallsIn Fence.wide m Try.prog 34 #[.func (.yield l) #[] #[], .pointer (some ⟨E0, 0, none⟩), .pointer (some ⟨E1, 0, none⟩)] W fun e W' => (∃ v, e = .returned v) ∧ (J M W' ∨ Jx W') := by
  obtain ⟨nu, hNU⟩ : ∃ n, us.length = n := ⟨_, rfl⟩
  obtain ⟨n, hN⟩ : ∃ n, vs.length = n := ⟨_, rfl⟩
  have HR := hid hrow; have HY := hid hY; have H0 := hid h0
  have c0 : W.cell? ⟨E0, 0, none⟩ = some (.slice q0 nu d0) := by rw [← hNU]; exact (hrow 0 W h0).b0.c 0
  have c1 : W.cell? ⟨E1, 0, none⟩ = some (.slice q1 n d1) := by rw [← hN]; exact (hrow 0 W h0).b1.c 0
  have HMC := hid (many_any q0 nu d0 q1 n d1 9223372036854775807 (by omega) (by omega) (by unfold Is64; omega))
  rw [hNU, hN] at hM
  rw [hM] at HMC
  have HWY : Hid (∀ k : Nat, (k : Int) ≤ 9223372036854775807 → ∀ W, AllAt W E0 E1 q0 d0 us q1 d1 vs → Calls Try.prog 13 #[.slice q0 nu d0, .slice q1 n d1, .int .i64 (k : Int)] W fun e w' => ∃ v, e = .returned (.tuple #[v, .bool (wayO us vs k).2]) ∧ BOwn w' W.heap.size v (wayO us vs k).1 ∧ Below W.heap.size W w') := hid (fun k hk W hW => by
    have := way_any q0 d0 us q1 d1 vs (k : Int) W hW.us hW.vs hu hv (by unfold Is64; omega)
    rw [hNU, hN] at this
    exact this)
  have HNU := hid hNU; have HN := hid hN
  clear hrow hY h0 hNU hN hM hu hv
  refine callsIn_of_wp Try.func34 rfl trivial ?_ rfl
  simp only [Try.ntmps34, List.size_toArray, List.length_cons, List.length_nil, Nat.reduceAdd, Nat.reduceSub, Array.replicate_succ, Array.replicate_zero, List.push_toArray, List.append_toArray, List.nil_append, List.cons_append]
  gi_wp2_with fail
  refine ⟨trivial, ?_⟩
  refine (callsIn_wide.2 (HMC.out _)).mono ?_
  rintro e w' ⟨rfl, rfl⟩
  gi_wp2_with fail
  gi_loopw [10] (fun p wr => ∃ k : Nat, k ≤ M ∧ p = .int .i64 (k : Int) ∧ J k wr) (fun p _ => M - (intOf p).toNat)
  case atStart => exact ⟨0, Nat.zero_le _, rfl, H0.out⟩
  case round =>
    obtain ⟨k, hk, rfl, hj⟩ := hrel
    have HJ := hid hj
    clear hj
    by_cases hlt : k < M
    · have hat := HR.out k wr HJ.out
      have e0 : wr.cell? ⟨E0, 0, none⟩ = some (.slice q0 nu d0) := by rw [← HNU.out]; exact hat.b0.c 0
      have e1 : wr.cell? ⟨E1, 0, none⟩ = some (.slice q1 n d1) := by rw [← HN.out]; exact hat.b1.c 0
      have HAT := hid hat
      have hkm : (k : Int) < (M : Int) := by omega
      clear hat c0 c1
      gi_wp2_with fail
      refine ⟨trivial, ?_⟩
      refine (callsIn_wide.2 (HWY.out k (by omega) wr HAT.out)).mono ?_
      rintro e w2 ⟨v, rfl, hown, hb⟩
      obtain ⟨fn, tmps, assign, body, hy, hR⟩ := HY.out k wr w2 v hlt HJ.out hb hown
      have HRR := hid hR
      obtain ⟨p9, c9, hv9⟩ := hown.form
      subst hv9
      clear hown hb hR e0 e1
      gi_wp2
      refine HRR.out.mono ?_
      rintro e W3 (⟨rfl, hJ3⟩ | ⟨rfl, hJx3⟩)
      · gi_wp2
        go_roundw
        case rel => exact ⟨k + 1, by omega, by go_num, hJ3⟩
        case measure => simp [intOf]; omega
      · gi_wp2
        refine bodyPost_ret (results_none rfl _ _ _) rfl ?_
        exact ⟨⟨_, rfl⟩, .inr hJx3⟩
    · obtain rfl : k = M := by omega
      gi_wp2
      refine bodyPost_end (results_none rfl _ _ _) rfl ?_
      exact ⟨⟨_, rfl⟩, .inl HJ.out⟩
end Go.Proofs.Ytplekhfnidhcoaa
