/- Counts; numbers in a block of their own. -/
import Derived.Test.YtbdkogccjnmfoabLjM
import Derived.Test.YtbdkogccjnmfoabLiU
import Derived.Test.YtbdkogccjnmfoabLiE
namespace Go.Proofs.Ytbdkogccjnmfoab
open Go.RowKit Go.Shelf

/-- Numbers that may be. -/
def Cnt (l : List Int) : Prop := ∀ x ∈ l, 0 ≤ x ∧ x ≤ 1048576
theorem cnt_iff (l : List Int) : l.any badC = false ↔ Cnt l := by
  rw [List.any_eq_false]
  unfold Cnt badC
  constructor
  · intro h x hx
    have := h x hx
    simp at this
    omega
  · intro h x hx
    have := h x hx
    simp
    omega
theorem Cnt.get {l : List Int} (h : Cnt l) (i : Nat) (hi : i < l.length) : 0 ≤ l[i] ∧ l[i] ≤ 1048576 := h _ (List.getElem_mem hi)
theorem cAll_get (l : List Int) (i : Nat) (hi : i < l.length) : (cAll l).toArray[i]? = some (.int .i64 l[i]) := by
  rw [List.getElem?_toArray]
  unfold cAll
  rw [List.getElem?_map, List.getElem?_eq_getElem hi]
  rfl
/-- Numbers in a block of their own. -/
structure Bl (W : World) (g : Nat) (l : List Int) : Prop where
  blk : ∃ cur : Array Value, W.heap[g]? = some (.cells cur 3 (0, 0)) ∧ ∀ i (h : i < l.length), cur[i]? = some (.int .i64 l[i])
theorem Bl.same {W W' : World} {g : Nat} {l : List Int} (h : Bl W g l) (hs : W'.heap[g]? = W.heap[g]?) : Bl W' g l := let ⟨cur, h1, h2⟩ := h.blk; ⟨cur, hs.trans h1, h2⟩
theorem Bl.cell {W : World} {g : Nat} {l : List Int} (h : Bl W g l) (i : Nat) (hi : i < l.length) : W.cell? ⟨g, i, none⟩ = some (.int .i64 l[i]) := let ⟨_, h1, h2⟩ := h.blk; cell_box h1 (h2 i hi)
theorem Bl.free {W : World} {g : Nat} {l : List Int} (h : Bl W g l) (i : Nat) : W.frozen? ⟨g, i, none⟩ = false := let ⟨_, h1, _⟩ := h.blk; free_box h1
theorem Bl.lt {W : World} {g : Nat} {l : List Int} (h : Bl W g l) : g < W.heap.size := let ⟨_, h1, _⟩ := h.blk; (Array.getElem?_eq_some_iff.1 h1).1
theorem Bl.set {W : World} {g : Nat} {l : List Int} (h : Bl W g l) (i : Nat) (x : Int) : Bl (W.setCell ⟨g, i, none⟩ (.int .i64 x)) g (l.set i x) := by
  obtain ⟨cur, h1, h2⟩ := h.blk
  refine ⟨_, block_set h1 _, fun j hj => ?_⟩
  rw [List.length_set] at hj
  have h3 := h2 j hj
  have h4 := (Array.getElem?_eq_some_iff.1 h3).1
  rw [Array.getElem?_setIfInBounds, List.getElem_set]
  by_cases e : i = j
  · subst e; rw [if_pos rfl, if_pos h4, if_pos rfl]
  · rw [if_neg e, if_neg e]; exact h3
theorem Bl.ints {W : World} {g : Nat} {l : List Int} (h : Bl W g l) (hl : l.length ≤ maxLen) : IntsAt W (some ⟨g, 0, none⟩) l := ⟨hl, fun i hi => ⟨g, 0, rfl, by rw [Nat.zero_add]; exact h.cell i hi⟩⟩
end Go.Proofs.Ytbdkogccjnmfoab
