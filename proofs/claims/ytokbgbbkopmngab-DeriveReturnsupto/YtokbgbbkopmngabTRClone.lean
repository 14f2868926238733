/- What the document's Clone makes: the term in new memory, its own list in a row of its own. -/
import Derived.Test.YtokbgbbkopmngabTLent
namespace Go.Proofs.Ytokbgbbkopmngab
open Go.RowKit Go.Deep

/-- A term whose list is a row of a new block, the lists beneath it in other new blocks. -/
structure RowTm (B0 : Nat) (W : World) (x : ByteArray × Int) (a : Option Addr) (c : Nat) (l : Fo) : Prop where
  sizes : Sizes x.1 (lenF l) c
  list : l = .nil ∨ ∃ g cur, a = some ⟨g, 0, none⟩ ∧ B0 ≤ g ∧ W.heap[g]? = some (Obj.cells cur 26 (0, 0)) ∧ OwnKids false (fun q => B0 ≤ q ∧ q ≠ g) W l g 0
set_option maxRecDepth 100000 in
theorem RowTm.own {B0 : Nat} {W : World} {x : ByteArray × Int} {a : Option Addr} {c : Nat} {l : Fo} (h : RowTm B0 W x a c l) : OwnTm false (fun q => B0 ≤ q) W x a c l :=
  ⟨h.sizes, by
    rcases h.list with h | ⟨g, cur, ha, hg, hc, hk⟩
    · exact .inl ⟨h, rfl⟩
    · exact .inr ⟨g, cur, ha, hg, hc, (fun e => by cases e), hk.mono (fun q _ hq => hq.1)⟩⟩
set_option maxRecDepth 100000 in
theorem RowTm.keep {B0 : Nat} {W W' : World} {x : ByteArray × Int} {a : Option Addr} {c : Nat} {l : Fo} (h : RowTm B0 W x a c l) (hp : ∀ k, B0 ≤ k → k < W.heap.size → W'.heap[k]? = W.heap[k]?) : RowTm B0 W' x a c l :=
  ⟨h.sizes, by
    rcases h.list with h | ⟨g, cur, ha, hg, hc, hk⟩
    · exact .inl h
    · have hgg := hp g hg (Array.getElem?_eq_some_iff.1 hc).1
      exact .inr ⟨g, cur, ha, hg, hgg.trans hc, hk.keep (fun k hk hlt => hp k hk.1 hlt) hgg⟩⟩
set_option maxRecDepth 100000 in
theorem RowTm.below {B0 : Nat} {W W' : World} {x : ByteArray × Int} {a : Option Addr} {c : Nat} {l : Fo} (h : RowTm B0 W x a c l) (hb : Below W.heap.size W W') : RowTm B0 W' x a c l := h.keep fun k _ hk => hb.block k hk

set_option maxRecDepth 100000 in
/-- The list when it is built. -/
theorem built_done {w wr : World} {x : ByteArray × Int} {l : Fo} {v : Value} {ks : List Kv} (hB : Built false w wr v (lenF l) ks) (hks : ks.map (fun k => (k.x, k.l)) = kidsL l) (hx : x.1.size ≤ maxLen) (hf : lenF l * 48 ≤ 140737488351232) :
    ∃ a c, v = .slice a (lenF l) c ∧ RowTm (w.heap.size + 3) wr x a c l := by
  rcases hB.row.2 with ⟨hv, h0⟩ | ⟨g, cap, cur, rfl, hb, hg, hnc, hcm, hsz, hcur⟩
  · refine ⟨none, 0, by rw [h0]; exact hv, ⟨hx, by omega, by simp, hf⟩, .inl (len_nil h0)⟩
  · refine ⟨_, cap, rfl, ⟨hx, hnc, hcm, hf⟩, .inr ⟨g, cur, rfl, hb, hg, ownKids_of l ks 0 hks (owns_at hB.row) (fun k hk => ?_)⟩⟩
    exact (hB.own k hk).mono (fun q _ hq => ⟨hq.1, fun e => hq.2 (by rw [e]; rfl)⟩)

end Go.Proofs.Ytokbgbbkopmngab
