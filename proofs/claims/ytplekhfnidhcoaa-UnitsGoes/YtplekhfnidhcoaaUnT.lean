/- What UnitsGoes keeps as it goes. -/
import Derived.Test.YtplekhfnidhcoaaUnS
import Derived.Test.YtplekhfnidhcoaaUnK
import Derived.Test.YtplekhfnidhcoaaUnE
import Derived.Test.YtplekhfnidhcoaaUnL
namespace Go.Proofs.Ytplekhfnidhcoaa
open Go.RowKit Go.Shelf Go.Deep

/-- All that was there when All had been called is as it was; the box of its value; the list of deferred calls. -/
structure GoK (w3 : World) (E0 E1 : Nat) (W : World) : Prop where
  low : Below w3.heap.size w3 W
  s : Box W w3.heap.size 41 #[.func (.func 34) #[] #[.pointer (some ⟨E0, 0, none⟩), .pointer (some ⟨E1, 0, none⟩)]]
  df : W.heap[w3.heap.size + 2]? = some (.deferred (some []))
theorem GoK.fr {w3 : World} {E0 E1 : Nat} {W : World} (h : GoK w3 E0 E1 W) {A : Nat → Prop} {W' : World} (hf : Fr A W W') (hA : ∀ q, A q → w3.heap.size < q ∧ q ≠ w3.heap.size + 2) : GoK w3 E0 E1 W' :=
  ⟨h.low.trans (hf.below (fun q hq => Nat.le_of_lt (hA q hq).1) h.low.size), h.s.fr hf (fun a => by have := hA _ a; omega), (hf.same _ (Array.getElem?_eq_some_iff.1 h.df).1 (fun a => (hA _ a).2 rfl)).trans h.df⟩
theorem GoK.below {w3 : World} {E0 E1 : Nat} {W W' : World} (h : GoK w3 E0 E1 W) (hb : Below W.heap.size W W') : GoK w3 E0 E1 W' := h.fr (Fr.of_below (A := fun _ => False) hb) (fun _ hx => hx.elim)
/-- Behind k rounds. -/
def GoJ (w3 : World) (E0 E1 : Nat) (most : Int) (r : Loop) (k : Nat) (W : World) : Prop :=
  GoK w3 E0 E1 W ∧ Box W (w3.heap.size + 1) 3 #[.int .i64 (k : Int)] ∧ W.heap[w3.heap.size + 3]? = some (.loop r) ∧ (k : Int) < most
/-- Left early. -/
def GoX (w3 : World) (E0 E1 : Nat) (most : Int) (r : Loop) (M : Nat) (W : World) : Prop :=
  GoK w3 E0 E1 W ∧ Box W (w3.heap.size + 1) 3 #[.int .i64 most] ∧ W.heap[w3.heap.size + 3]? = some (.loop { r with state := .done, pending := some (.exit 0) }) ∧ most ≤ (M : Int)
theorem loop_below {W W' : World} {L : Nat} {r : Loop} (h : W.heap[L]? = some (.loop r)) (hb : Below W.heap.size W W') : W'.heap[L]? = some (.loop r) := (hb.block L (Array.getElem?_eq_some_iff.1 h).1).trans h
/-- A row that may be written to. -/
def SpAt (W : World) (g n : Nat) : Prop := ∃ cur : Array Value, W.heap[g]? = some (.cells cur 44 (0, 0)) ∧ n * 4 ≤ cur.size
theorem SpAt.cell {W : World} {g n : Nat} (h : SpAt W g n) (i : Nat) (hi : i < n) : ∃ u, W.cell? ⟨g, i * 4, none⟩ = some u := by
  obtain ⟨cur, h1, h2⟩ := h
  exact ⟨_, cell_box h1 (Array.getElem?_eq_getElem (by omega : i * 4 < cur.size))⟩
theorem SpAt.free {W : World} {g n : Nat} (h : SpAt W g n) (k : Nat) : W.frozen? ⟨g, k, none⟩ = false := by
  obtain ⟨cur, h1, _⟩ := h
  simp [World.frozen?, h1]
theorem SpAt.set {W : World} {g n : Nat} (h : SpAt W g n) (k : Nat) (v : Value) : SpAt (W.setCell ⟨g, k, none⟩ v) g n := by
  obtain ⟨cur, h1, h2⟩ := h
  exact ⟨_, block_set h1 v, by rw [Array.size_setIfInBounds]; exact h2⟩
theorem sp_of {W : World} {base g n cap : Nat} {l : List Bl} (h : BOwn W base (.slice (some ⟨g, 0, none⟩) n cap) l) : SpAt W g l.length := by
  rcases h.2 with ⟨h1, _⟩ | ⟨g', cap', cur, h1, h2, h3, h4, h5, h6, h7⟩
  · cases h1
  · cases h1
    exact ⟨cur, h3, by rw [h6]; exact Nat.mul_le_mul_right _ h4⟩
theorem SpAt.below {W W' : World} {g n : Nat} (h : SpAt W g n) (hb : Below W.heap.size W W') : SpAt W' g n := by
  obtain ⟨cur, h1, h2⟩ := h
  exact ⟨cur, (hb.block g (Array.getElem?_eq_some_iff.1 h1).1).trans h1, h2⟩
theorem wayO_ok {us : List Int} {vs : List ByteArray} {k : Nat} (h : k < (us.length + 1) ^ vs.length) : (wayO us vs (k : Int)).2 = true := by
  unfold wayO
  rw [if_neg (by omega), Int.toNat_natCast, if_pos (Nat.div_eq_of_lt h)]
theorem wayO_first (us : List Int) (vs : List ByteArray) : (wayO us vs 0).1 = [] := by
  unfold wayO
  rw [if_neg (by omega)]
  split
  · exact wayR_zero us _
  · rfl
/-- How many there are, of a small number at most. -/
theorem many_all {u n M : Nat} {most : Int} (hM : manyO u n 9223372036854775807 = (M : Int)) (h : (M : Int) < most) (h2 : most ≤ 200) : manyO u n most = (M : Int) := by
  unfold manyO at hM ⊢
  rw [if_neg (by omega)] at hM
  rw [if_neg (by omega)]
  by_cases h3 : ((u + 1) ^ n : Nat) ≤ (9223372036854775807 : Int).toNat
  · rw [if_pos h3] at hM
    rw [if_pos (by omega)]
    exact hM
  · rw [if_neg h3] at hM
    omega
theorem many_more {u n M : Nat} {most : Int} (hM : manyO u n 9223372036854775807 = (M : Int)) (h : most ≤ (M : Int)) (h1 : 1 ≤ most) : manyO u n most = most := by
  unfold manyO at hM ⊢
  rw [if_neg (by omega)] at hM
  rw [if_neg (by omega)]
  by_cases h3 : ((u + 1) ^ n : Nat) ≤ (9223372036854775807 : Int).toNat
  · rw [if_pos h3] at hM
    by_cases h4 : ((u + 1) ^ n : Nat) ≤ most.toNat
    · rw [if_pos h4]; omega
    · rw [if_neg h4]
  · rw [if_neg h3] at hM
    rw [if_neg (by omega)]
/-- A range within a round. -/
theorem range_inner {F : Fence} {n : Nat} {P : Program} {g : Operand} {ps : Array Tmp} {assign body : Code} {Q : Exit → Act → World → Prop} {a : Act} {w : World} {l0 : Nat} {r0 : Loop}
    (hro : F.round = some l0) (hr0 : w.heap[l0]? = some (.loop r0)) (h1 : 1 ≤ n) {gf : Nat} {lb : Array Value} (hg : a.eval g = .func (.func gf) #[] lb) (hFg : F.fn gf) (eg : ∀ args w, (callFunc gf args).run P w = .ok (.enter gf args) w)
    (hcall : ∀ r : Loop, r.state = .ready → r.pending = none → r.tmps = a.tmps → r.params = ps → r.assign = assign → r.body = body → F.fn r.fn →
      CallsIn F (n - 1) P gf (#[.func (.yield w.heap.size) #[] #[]] ++ lb) (w.alloc (.loop r)) fun e W => (∃ v, e = .returned v) ∧
        ((W.heap[w.heap.size]? = some (.loop r) ∧ Q .normal a (W.putObj w.heap.size (.loop { r with state := .exhausted }))) ∨
         (∃ c, W.heap[w.heap.size]? = some (.loop { r with state := .done, pending := some c }) ∧ c.wpIn F n P Q a (W.putObj w.heap.size (.loop { r with state := .exhausted, pending := some c }))))) :
    (Code.rangeFunc g ps assign body).wpIn F n P Q a w := by
  refine wpIn_rangeFunc ?_
  intro fn hfn
  rw [hro]
  let r : Loop := { state := .ready, pending := none, fn, tmps := a.tmps, params := ps, assign, body, defers := r0.defers }
  let W1 : World := w.alloc (.loop r)
  refine ⟨w.heap.size, [], W1, { target := .fn (.func gf) lb, args := #[.func (.yield w.heap.size) #[] #[]] }, W1, gf,
    #[.func (.yield w.heap.size) #[] #[]] ++ lb, W1, run_enterLoop_inner hr0 fn a.tmps ps assign body, ?_, ?_, ?_, fun _ => h1, ?_⟩
  · simp only [resolve, hg]
    simp [go_sem]
  · intro f' hf'; simp [Target.leads] at hf'; subst hf'; exact hFg
  · simp [invoke, go_sem, eg]
  · refine (hcall r rfl rfl rfl rfl rfl rfl hfn).mono ?_
    rintro e W ⟨⟨v, rfl⟩, (⟨hl, hq⟩ | ⟨c, hl, hq⟩)⟩
    · exact ⟨none, _, run_endLoop hl (by simp), hq⟩
    · exact ⟨some c, _, run_endLoop hl (by simp), hq⟩
end Go.Proofs.Ytplekhfnidhcoaa
