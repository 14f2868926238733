import Derived.Test.YtfnfbljijkjkjaaKSqA
/- The document's One where it answers parts. -/
namespace Go.Proofs.Ytfnfbljijkjkjaa
open Go.RowKit Go.Deep

abbrev outC (v : Value) : Array Value := #[.int .i64 4, .string ⟨#[]⟩, .string ⟨#[]⟩, .int .i64 0, .slice none 0 0, v, .int .i64 0]
/-- One's boxes and the equations that it has laid. -/
structure PSt (w : World) (o : Nat) (Lc Rc : Array Value) (W : World) (v : Value) (j : Nat) (ks : List Kv) : Prop where
  low : Below w.heap.size w W
  big : w.heap.size + 4 ≤ o
  y : Box W (w.heap.size + 1) 36 zWay
  l : Box W (w.heap.size + 1 + 1) 26 Lc
  r : Box W (w.heap.size + 1 + 1 + 1) 26 Rc
  x : Box W o 36 (outC v)
  row : W.ownsRow (o + 1) 28 6 v j (kvCells ks)
  own : ∀ k ∈ ks, OwnTm false (fun q => o + 1 ≤ q ∧ some q ≠ v.ownBlock) W k.x k.a k.c k.l

theorem part_far {w wr v1 v2 w3 : World} {o : Nat} {Lc Rc : Array Value} {v : Value} {j : Nat} {ks : List Kv} {ob : Obj} (hP : PSt w o Lc Rc wr v j ks) (h1 : Below wr.heap.size wr v1) (h2 : Below v1.heap.size v1 v2) (hg : (v2.alloc ob).grownBy w3 v.ownBlock) :
    (∀ q, q < o + 1 → w3.heap[q]? = wr.heap[q]?) ∧ Below w.heap.size w w3 := by
  have h12 := h1.trans (h2.mono h1.size)
  have hWa : Below wr.heap.size wr (v2.alloc ob) := h12.alloc h12.size _
  have hxl := hP.x.lt
  have hls := hP.low.size
  have hbg := hP.big
  have hb : ∀ q, v.ownBlock = some q → o + 1 ≤ q := fun q e => (owns_cells hP.row e).1
  have hz := h12.size
  refine ⟨fun q hq => ?_, hP.low.trans ((hWa.mono hls).grown hg (by simp; omega) (fun k e => by have := hb k e; omega))⟩
  rw [hg.block q (by rw [World.size_alloc]; omega) (fun e => by have := hb q e.symm; omega)]
  exact hWa.block q (by omega)
/-- One equation more. -/
theorem part_step {w wr v1 v2 w3 : World} {o : Nat} {Lc Rc : Array Value} {v : Value} {j g cap : Nat} {ks : List Kv} {k1 k2 : Kv} {ob : Obj} (hP : PSt w o Lc Rc wr v j ks) (h1 : Below wr.heap.size wr v1) (h2 : Below v1.heap.size v1 v2)
    (hk1 : OwnTm false (fun q => wr.heap.size ≤ q) v1 k1.x k1.a k1.c k1.l) (hk2 : OwnTm false (fun q => v1.heap.size ≤ q) v2 k2.x k2.a k2.c k2.l) (hg : (v2.alloc ob).grownBy w3 v.ownBlock) (hat : v.ownBlock = some g ∨ g = v2.heap.size + 1)
    (ho : w3.ownsRow (o + 1) 28 6 (.slice (some ⟨g, 0, none⟩) (j + 1) cap) (j + 1) (kvCells ks ++ kvCells [k1, k2])) :
    PSt w o Lc Rc (w3.setCell ⟨o, 5, none⟩ (.slice (some ⟨g, 0, none⟩) (j + 1) cap)) (.slice (some ⟨g, 0, none⟩) (j + 1) cap) (j + 1) (ks ++ [k1, k2]) := by
  obtain ⟨far, hlow⟩ := part_far hP h1 h2 hg
  have h12 := h1.trans (h2.mono h1.size)
  have hWa : Below wr.heap.size wr (v2.alloc ob) := h12.alloc h12.size _
  have hxl := hP.x.lt
  have hbg := hP.big
  have hs1 := h1.size
  have hs2 := h2.size
  have hv : ∀ q, v.ownBlock = some q → o + 1 ≤ q ∧ q < wr.heap.size := fun q e => by
    obtain ⟨h, cur, hc⟩ := owns_cells hP.row e
    exact ⟨h, (Array.getElem?_eq_some_iff.1 hc).1⟩
  have set : ∀ (q : Nat), q ≠ o → (w3.setCell ⟨o, 5, none⟩ (.slice (some ⟨g, 0, none⟩) (j + 1) cap)).heap[q]? = w3.heap[q]? := fun q hq => Below.heap_setCell w3 ⟨o, 5, none⟩ _ q hq
  have grow : ∀ (q : Nat), some q ≠ v.ownBlock → q < (v2.alloc ob).heap.size → w3.heap[q]? = (v2.alloc ob).heap[q]? := fun q hq hlt => hg.block q hlt hq
  refine ⟨hlow.setCell (p := ⟨o, 5, none⟩) (by show w.heap.size ≤ o; omega) _, hbg, ?_, ?_, ?_, ?_, ?_, ?_⟩
  · exact ((set _ (by omega)).trans (far _ (by omega))).trans hP.y
  · exact ((set _ (by omega)).trans (far _ (by omega))).trans hP.l
  · exact ((set _ (by omega)).trans (far _ (by omega))).trans hP.r
  · exact Box.set (cs := outC v) ((far _ (by omega)).trans hP.x) 5 _
  · rw [kvCells_app]
    exact owns_block ho (fun q hq => by have := (owns_cells ho hq).1; exact set q (by omega))
  · have last : ∀ {k : Kv}, OwnTm false (fun q => (o + 1 ≤ q ∧ some q ≠ some g) ∧ some q ≠ v.ownBlock) v2 k.x k.a k.c k.l → OwnTm false (fun q => o + 1 ≤ q ∧ some q ≠ some g) (w3.setCell ⟨o, 5, none⟩ (.slice (some ⟨g, 0, none⟩) (j + 1) cap)) k.x k.a k.c k.l := fun h =>
      (((h.below ((Below.refl _ _).alloc (Nat.le_refl _) ob)).keep (fun q hq hlt => grow q hq.2 hlt)).mono (fun q _ hq => hq.1)).keep (fun q hq _ => set q (by omega))
    intro k hkm
    rcases List.mem_append.1 hkm with hkm | hkm
    · refine last ?_
      have h0 : OwnTm false (fun q => (o + 1 ≤ q ∧ some q ≠ some g) ∧ some q ≠ v.ownBlock) wr k.x k.a k.c k.l := (hP.own k hkm).mono (fun q hq hp => ⟨⟨hp.1, by
        rcases hat with e | e
        · rw [← e]; exact hp.2
        · intro e'; cases e'; omega⟩, hp.2⟩)
      exact h0.below h12
    · have hnew : ∀ q, wr.heap.size ≤ q → q < v2.heap.size → (o + 1 ≤ q ∧ some q ≠ some g) ∧ some q ≠ v.ownBlock := fun q hq hlt => ⟨⟨by omega, by
        rcases hat with e | e
        · intro e'; cases e'; have := hv g e; omega
        · intro e'; cases e'; omega⟩, fun e' => by have := hv q e'.symm; omega⟩
      simp only [List.mem_cons, List.not_mem_nil, or_false] at hkm
      rcases hkm with rfl | rfl
      · exact last ((hk1.below h2).mono (fun q hq hp => hnew q hp hq))
      · exact last (hk2.mono (fun q hq hp => hnew q (by omega) hq))
theorem owns_cell1 {w : World} {base e size g n cap : Nat} {xs : List Value} (h : w.ownsRow base e size (.slice (some ⟨g, 0, none⟩) n cap) n xs) {i : Nat} {u : Value} (hu : xs[i]? = some u) : w.cell? ⟨g, i, none⟩ = some u := by
  have := owns_at h i u hu
  rwa [Nat.zero_add] at this
theorem part_end {w W : World} {o : Nat} {Lc Rc : Array Value} {v : Value} {ks : List Kv} {ls : List (Tn × Tn)} {j : Nat} (hP : PSt w o Lc Rc W v j ks) (hj : ls.length = j) (hks : ks.map Kv.tn = flatL ls) :
    ∃ la lc, v = .slice la j lc ∧ ∀ W' : World, (∀ q, o + 1 ≤ q → W'.heap[q]? = W.heap[q]?) → WyAt W' (.agg (wayC 4 noS (noS, 0) none 0 0 la j lc 0)) ⟨4, noS, zT, ls, 0⟩ := by
  subst hj
  have hT : ∀ W' : World, (∀ q, o + 1 ≤ q → W'.heap[q]? = W.heap[q]?) → ∀ k ∈ ks, TmAt W' k.x k.a k.c k.l := fun W' hW k hk => ((hP.own k hk).keep (fun q hq _ => hW q hq.1)).tm
  rcases hP.row.2 with ⟨hv, h0⟩ | ⟨g, cap, cur, rfl, hb, hg, hnc, hcm, hsz, hcur⟩
  · exact ⟨none, 0, by rw [h0]; exact hv, fun W' hW => ⟨none, 0, ks, none, 0, by rfl, zT_at _, hks, hT W' hW, .inl h0, by show ls.length ≤ 0; omega⟩⟩
  · exact ⟨_, cap, rfl, fun W' hW => ⟨none, 0, ks, _, cap, rfl, zT_at _, hks, hT W' hW, .inr ⟨g, rfl, fun i u hu => owns_cell1 (owns_block hP.row (fun q hq => hW q (owns_cells hP.row hq).1)) hu⟩, hnc⟩⟩

end Go.Proofs.Ytfnfbljijkjkjaa
