import Derived.Test.YtfnfbljijkjkjaaGreatKUfI
/- lay of the solver: what Backward hands out of equations; how the solver stays. -/
namespace Go.Proofs.YtfnfbljijkjkjaaGreat
open Go.RowKit Go.Shelf Go.Deep

attribute [local go_sem] Oper.semAt_some

abbrev Eq2 := Kv × Kv
def flatK (P : List Eq2) : List Kv := P.flatMap fun p => [p.1, p.2]
theorem flatK_len (P : List Eq2) : (flatK P).length = 2 * P.length := by
  induction P with
  | nil => rfl
  | cons p r ih => simp only [flatK, List.flatMap_cons, List.length_append, List.length_cons, List.length_nil] at ih ⊢; omega
theorem flatK_app (P R : List Eq2) : flatK (P ++ R) = flatK P ++ flatK R := by unfold flatK; rw [List.flatMap_append]
theorem flatK_at : ∀ (P : List Eq2) (i : Nat) (h : i < P.length), (flatK P)[2 * i]? = some P[i].1 ∧ (flatK P)[2 * i + 1]? = some P[i].2
  | [], i, h => absurd h (by simp)
  | p :: r, 0, _ => ⟨rfl, rfl⟩
  | p :: r, i + 1, h => by
    have ih := flatK_at r i (by simpa using h)
    have e : flatK (p :: r) = p.1 :: p.2 :: flatK r := rfl
    rw [e, show 2 * (i + 1) = 2 * i + 1 + 1 by omega, show 2 * i + 1 + 1 + 1 = (2 * i + 1) + 1 + 1 by omega]
    simp only [List.getElem?_cons_succ, List.getElem_cons_succ]
    exact ih
def eqA (p : Eq2) : Array Value := #[.string p.1.x.1, .int .i64 p.1.x.2, .slice p.1.a (lenF p.1.l) p.1.c, .string p.2.x.1, .int .i64 p.2.x.2, .slice p.2.a (lenF p.2.l) p.2.c]
/-- Equations in a slice, wherever it lies. -/
def EqsAt (W : World) (q : Option Addr) (P : List Eq2) : Prop := ∀ i (h : i < P.length), ∃ g o, q = some ⟨g, o, none⟩ ∧ W.cell? ⟨g, o + i * 6, none⟩ = some (.string P[i].1.x.1) ∧ W.cell? ⟨g, o + i * 6 + 1, none⟩ = some (.int .i64 P[i].1.x.2) ∧ W.cell? ⟨g, o + i * 6 + 2, none⟩ = some (.slice P[i].1.a (lenF P[i].1.l) P[i].1.c) ∧ W.cell? ⟨g, o + i * 6 + 3, none⟩ = some (.string P[i].2.x.1) ∧ W.cell? ⟨g, o + i * 6 + 4, none⟩ = some (.int .i64 P[i].2.x.2) ∧ W.cell? ⟨g, o + i * 6 + 5, none⟩ = some (.slice P[i].2.a (lenF P[i].2.l) P[i].2.c)
theorem EqsAt.keep {W W' : World} {q : Option Addr} {P : List Eq2} (h : EqsAt W q P) (hk : ∀ g o, q = some ⟨g, o, none⟩ → g < W.heap.size → W'.heap[g]? = W.heap[g]?) : EqsAt W' q P := fun i hi => by
  obtain ⟨g, o, rfl, h0, h1, h2, h3, h4, h5⟩ := h i hi
  have hb := hk g o rfl (World.block_lt_of_cell? W _ h0)
  have hc : ∀ p v, W.cell? ⟨g, p, none⟩ = some v → W'.cell? ⟨g, p, none⟩ = some v := fun p v hv => (World.cell?_of_block (a := ⟨g, p, none⟩) hb).trans hv
  exact ⟨g, o, rfl, hc _ _ h0, hc _ _ h1, hc _ _ h2, hc _ _ h3, hc _ _ h4, hc _ _ h5⟩
set_option maxRecDepth 100000 in
set_option maxHeartbeats 4000000 in
theorem back_all (m : Nat) (hm : 1 ≤ m) (l Bn : Nat) (q : Option Addr) (d : Nat) (P : List Eq2) (hn : P.length ≤ 1073741824) (J : Nat → World → Prop)
    (hrow : ∀ k W, k < P.length → J k W → Box W Bn 39 #[.slice q P.length d] ∧ EqsAt W q P)
    (hY : ∀ k W (hk : k < P.length), J k W → YieldAt Fence.wide (m - 1) Tryz.prog l #[.int .i64 ((P.length - 1 - k : Nat) : Int), .agg (eqA (P[P.length - 1 - k]'(by omega)))] W fun e W' => e = .returned (.bool true) ∧ J (k + 1) W')
    (W : World) (hBn : Box W Bn 39 #[.slice q P.length d]) (h0 : J 0 W) :
    CallsIn Fence.wide m Tryz.prog 72 #[.func (.yield l) #[] #[], .pointer (some ⟨Bn, 0, none⟩)] W fun e W' => (∃ v, e = .returned v) ∧ J P.length W' := by
  have HR := hid hrow; have HY := hid hY; have H0 := hid h0
  have c0 := hBn.c 0
  obtain ⟨n, hnn⟩ : ∃ n, P.length = n := ⟨_, rfl⟩
  have HN := hid hnn
  rw [hnn] at hn c0 ⊢
  clear hrow hY h0 hBn hnn
  refine callsIn_of_wp Tryz.func72 rfl trivial ?_ rfl
  simp only [Tryz.ntmps72, List.size_toArray, List.length_cons, List.length_nil, Nat.reduceAdd, Nat.reduceSub, Array.replicate_succ, Array.replicate_zero, List.push_toArray, List.append_toArray, List.nil_append, List.cons_append]
  gi_wp2
  gi_loopw [3] (fun p wr => ∃ k : Nat, k ≤ n ∧ p = .int .i64 ((n : Int) - 1 - k) ∧ J k wr) (fun p _ => (intOf p + 1).toNat)
  case atStart => exact ⟨0, Nat.zero_le _, by simp, H0.out⟩
  case round =>
    obtain ⟨k, hk, rfl, hj⟩ := hrel
    have HJ := hid hj
    clear hj
    by_cases hlt : k < n
    · have hkP : k < P.length := by have := HN.out; omega
      obtain ⟨hbx, hes⟩ := HR.out k wr hkP HJ.out
      have cb := hbx.c 0
      obtain ⟨g, o, rfl, q0, q1, q2, q3, q4, q5⟩ := hes (P.length - 1 - k) (by omega)
      obtain ⟨fn, tmps, assign, body, hy, hR⟩ := HY.out k wr hkP HJ.out
      have HRR := hid hR
      have he : (n : Int) - 1 - k = ((n - 1 - k : Nat) : Int) := by omega
      rw [he]
      generalize hpp : P[P.length - 1 - k]'(by omega) = pp at q0 q1 q2 q3 q4 q5 hy
      have hnn := HN.out
      rw [hnn] at q0 q1 q2 q3 q4 q5 hy cb
      obtain ⟨i, hi⟩ : ∃ i, n - 1 - k = i := ⟨_, rfl⟩
      rw [hi] at q0 q1 q2 q3 q4 q5 hy he ⊢
      have hin : (i : Int) < (n : Int) := by omega
      have hi0 : (0 : Int) ≤ (i : Int) := by omega
      have HI := hid hi
      unfold eqA at hy
      clear hi he hbx hR hes hpp hnn
      gi_wp2
      refine HRR.out.mono ?_
      rintro e W3 ⟨rfl, hJ3⟩
      gi_wp2
      go_roundw
      case rel => exact ⟨k + 1, by omega, by have := HI.out; simp; omega, hJ3⟩
      case measure => simp [intOf]
    · obtain rfl : k = n := by omega
      rw [show (k : Int) - 1 - k = -1 by omega]
      gi_wp2
      refine bodyPost_end (results_none rfl _ _ _) rfl ?_
      exact ⟨⟨_, rfl⟩, HJ.out⟩
/-- The solver stays where other blocks are written. -/
theorem Sv.keep {w0 : World} {B : Nat} {v1 v2 : Value} {n : Nat} {es : List Kv} {bs : List Bk} {W W' : World} (h : Sv w0 B v1 v2 n es bs W) {A : Nat → Prop} (hf : Fr A W W') (hA : ∀ q o, A q → W.heap[q]? = some o → S0 w0.heap.size q o = false) (hAN : ∀ q, A q → w0.heap.size ≤ q) (hB : ¬ A B) (h1 : ∀ q, v1.ownBlock = some q → ¬ A q) (h2 : ∀ q, v2.ownBlock = some q → ¬ A q) : Sv w0 B v1 v2 n es bs W' :=
  ⟨below_fr h.low hf hAN h.low.size, h.hB, (hf.same B h.box.lt hB).trans h.box, h.len, owns_block h.r1 (fun q hq => hf.same q (h.r1.lt q hq).2 (h1 q hq)), owns_block h.r2 (fun q hq => hf.same q (h.r2.lt q hq).2 (h2 q hq)), fun k hk => tmO_fr (h.te k hk) hf hA, fun b hb => tmO_fr (h.tb b hb) hf hA⟩
/-- One equation more. -/
theorem Sv.lay {w0 : World} {B : Nat} {v1 v2 v1' : Value} {n : Nat} {es : List Kv} {bs : List Bk} {W W' : World} (h : Sv w0 B v1 v2 n es bs W) (hf : Fr (fun q => v1.ownBlock = some q ∨ q = B) W W') (hb : Box W' B 72 #[v1', v2]) {k1 k2 : Kv} (hr : W'.ownsRow (B + 1) 28 6 v1' (n + 1) (kvCells es ++ kvCells [k1, k2])) (t1 : TmO (S0 w0.heap.size) W k1.x k1.a k1.c k1.l) (t2 : TmO (S0 w0.heap.size) W k2.x k2.a k2.c k2.l) : Sv w0 B v1' v2 (n + 1) (es ++ [k1, k2]) bs W' := by
  have hk : ∀ {x : ByteArray × Int} {a : Option Addr} {c : Nat} {l : Fo}, TmO (S0 w0.heap.size) W x a c l → TmO (S0 w0.heap.size) W' x a c l := fun ht => tmO_fr ht hf fun q o hq ho => (h.hid1 hq ho).2
  have hl := h.len
  refine ⟨below_fr h.low hf (fun q hq => (h.hid1 hq (Array.getElem?_eq_getElem (h.lt1 hq))).1) h.low.size, h.hB, hb, by rw [List.length_append]; simp only [List.length_cons, List.length_nil]; omega, by rw [kvCells_app]; exact hr, owns_block h.r2 (fun q hq => hf.same q (h.r2.lt q hq).2 ?_), fun k hk' => ?_, fun q hq => hk (h.tb q hq)⟩
  · rintro (h2 | rfl)
    · exact row_ne h.r2 h.r1 (by decide) hq h2
    · exact row_box h.r2 h.box (by decide) hq
  · rcases List.mem_append.1 hk' with h1 | h1
    · exact hk (h.te k h1)
    · simp only [List.mem_cons, List.not_mem_nil, or_false] at h1
      rcases h1 with rfl | rfl
      · exact hk t1
      · exact hk t2
end Go.Proofs.YtfnfbljijkjkjaaGreat
