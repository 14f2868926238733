/- What Plain of package sig makes. -/
import Derived.Test.YtplekhfnidhcoaaLent
namespace Go.Proofs.Ytplekhfnidhcoaa
open Go.RowKit

def plainS (x : Sym) : Sym := if x.kind = 3 then ⟨x.name, 2, x.arity, ⟨#[]⟩⟩ else x
theorem plainS_not {x : Sym} (h : x.kind ≠ 3) : plainS x = x := by simp [plainS, h]
theorem plainS_is {x : Sym} (h : x.kind = 3) : plainS x = ⟨x.name, 2, x.arity, ⟨#[]⟩⟩ := by simp [plainS, h]
theorem plainS_fits {x : Sym} (h : x.Fits) : (plainS x).Fits := by
  unfold plainS
  split
  · exact ⟨h.name, by show ByteArray.size ⟨#[]⟩ ≤ maxLen; decide⟩
  · exact h

/-- n symbols' cells lie in block g, and may be written. -/
def Room (w : World) (g n : Nat) : Prop := ∀ j, j < n * 4 → (∃ v, w.cell? ⟨g, j, none⟩ = some v) ∧ w.frozen? ⟨g, j, none⟩ = false

theorem room_of_owns {w : World} {base g n cap : Nat} {xs : List Value} (h : w.ownsRow base 80 4 (.slice (some ⟨g, 0, none⟩) n cap) n xs) : Room w g n := by
  rcases h.2 with ⟨hv, _⟩ | ⟨g', cap', cur, hv, _, hh, hnc, _, hsz, _⟩
  · cases hv
  · simp only [Value.slice.injEq, Option.some.injEq, Addr.mk.injEq, and_true, true_and] at hv
    obtain ⟨rfl, rfl⟩ := hv
    intro j hj
    have hj' : j < cur.size := by rw [hsz]; exact Nat.lt_of_lt_of_le hj (Nat.mul_le_mul_right 4 hnc)
    refine ⟨⟨cur[j], ?_⟩, ?_⟩
    · rw [cell_of_row w g j cur 80 (0, 0) hh]; simp [hj']
    · simp [World.frozen?, hh]
theorem own_lt {w : World} {base g n cap : Nat} {xs : List Value} (h : w.ownsRow base 80 4 (.slice (some ⟨g, 0, none⟩) n cap) n xs) : g < w.heap.size := by
  rcases h.2 with ⟨hv, _⟩ | ⟨g', cap', cur, hv, _, hh, _⟩
  · cases hv
  · simp only [Value.slice.injEq, Option.some.injEq, Addr.mk.injEq, and_true, true_and] at hv
    obtain ⟨rfl, rfl⟩ := hv
    rcases Nat.lt_or_ge g w.heap.size with hlt | hge
    · exact hlt
    · rw [Array.getElem?_eq_none hge] at hh; cases hh
theorem room_alloc {w : World} {g n : Nat} (h : Room w g n) (hg : g < w.heap.size) (o : Obj) : Room (w.alloc o) g n := fun j hj => by
  obtain ⟨⟨v, hv⟩, hf⟩ := h j hj
  exact ⟨⟨v, by rw [World.cell?_alloc_lt _ _ _ hg]; exact hv⟩, (World.frozen?_alloc_past o g j hg).trans hf⟩
theorem cells_len (x : Sym) : x.cells.length = 4 := rfl
theorem room_set {w : World} {g n o : Nat} (h : Room w g n) (x : Sym) (ho : o + 4 ≤ n * 4) : Room (w.setCells g o x.cells) g n := fun j hj => by
  refine ⟨?_, by rw [World.frozen?_setCells]; exact (h j hj).2⟩
  by_cases hin : o ≤ j ∧ j < o + 4
  · have := World.cell?_setCells_in g x.cells o w (fun i hi => by
      obtain ⟨⟨v, hv⟩, _⟩ := h (o + i) (by rw [cells_len] at hi; omega)
      rw [hv]; rfl) (j - o) (by rw [cells_len]; omega)
    rw [show o + (j - o) = j by omega] at this
    exact ⟨_, this⟩
  · rw [World.cell?_setCells_out g x.cells o w _ (fun _ _ => by rw [cells_len]; show j < o ∨ o + 4 ≤ j; omega)]
    exact (h j hj).1
theorem sym_set {w : World} {g n o : Nat} (h : Room w g n) (x : Sym) (ho : o + 4 ≤ n * 4) : SymAt (w.setCells g o x.cells) g o x := by
  have key := World.cell?_setCells_in g x.cells o w (fun i hi => by
      obtain ⟨⟨v, hv⟩, _⟩ := h (o + i) (by rw [cells_len] at hi; omega)
      rw [hv]; rfl)
  exact ⟨key 0 (by rw [cells_len]; omega), key 1 (by rw [cells_len]; omega), key 2 (by rw [cells_len]; omega), key 3 (by rw [cells_len]; omega)⟩
theorem sym_other {w : World} {b g o o' : Nat} {y : Sym} (h : SymAt w b o' y) (x : Sym) (hne : b = g → o' + 4 ≤ o ∨ o + 4 ≤ o') : SymAt (w.setCells g o x.cells) b o' y := by
  have key : ∀ i, i < 4 → (w.setCells g o x.cells).cell? ⟨b, o' + i, none⟩ = w.cell? ⟨b, o' + i, none⟩ := fun i hi =>
    World.cell?_setCells_out g x.cells o w _ (fun hb _ => by rw [cells_len]; show o' + i < o ∨ o + 4 ≤ o' + i; have := hne hb; omega)
  exact ⟨(key 0 (by omega)).trans h.name, (key 1 (by omega)).trans h.kind, (key 2 (by omega)).trans h.arity, (key 3 (by omega)).trans h.unit⟩
theorem below_set {B : Nat} {a w : World} (h : Below B a w) {g : Nat} (hg : B ≤ g) (o : Nat) (x : Sym) : Below B a (w.setCells g o x.cells) :=
  (((h.setCell (p := ⟨g, o, none⟩) hg _).setCell (p := ⟨g, o + 1, none⟩) hg _).setCell (p := ⟨g, o + 2, none⟩) hg _).setCell (p := ⟨g, o + 3, none⟩) hg _
theorem size_set (w : World) (g o : Nat) (x : Sym) : (w.setCells g o x.cells).heap.size = w.heap.size := by
  show ((((w.setCell ⟨g, o, none⟩ _).setCell ⟨g, o + 1, none⟩ _).setCell ⟨g, o + 2, none⟩ _).setCell ⟨g, o + 3, none⟩ _).heap.size = _
  simp

/-- What holds behind k rounds of Plain. -/
structure PlainTo (w wr : World) (n k : Nat) (l : List Sym) : Prop where
  below : Below w.heap.size w wr
  size : w.heap.size < wr.heap.size
  room : Room wr w.heap.size n
  done : ∀ j (hj : j < l.length), j < k → SymAt wr w.heap.size (j * 4) (plainS l[j])

theorem PlainTo.next {w wr : World} {n k : Nat} {l : List Sym} (h : PlainTo w wr n k l) (hk : k < n) (hl : k < l.length) (y : Sym) (hy : y = plainS l[k]) (o : Obj) : PlainTo w ((wr.setCells w.heap.size (k * 4) y.cells).alloc o) n (k + 1) l := by
  have hsz := size_set wr w.heap.size (k * 4) y
  have hb := below_set h.below (Nat.le_refl w.heap.size) (k * 4) y
  refine ⟨hb.alloc hb.size _, ?_, room_alloc (room_set h.room y (by omega)) (by rw [hsz]; exact h.size) _, fun j hj hjk => ?_⟩
  · have := h.size; simp only [World.size_alloc]; omega
  · have hsy : SymAt (wr.setCells w.heap.size (k * 4) y.cells) w.heap.size (j * 4) (plainS l[j]) := by
      rcases Nat.lt_succ_iff_lt_or_eq.1 hjk with hjk | rfl
      · exact sym_other (h.done j hj hjk) y (fun _ => by omega)
      · rw [← hy]; exact sym_set h.room y (by omega)
    exact hsy.below ((Below.refl _ _).alloc (Nat.le_refl _) _)

theorem PlainTo.sig {w wr : World} {n : Nat} {l : List Sym} (h : PlainTo w wr n n l) (hn : n = l.length) (hm : n ≤ maxLen) (hf : ∀ x ∈ l, x.Fits) : SigAt wr (some ⟨w.heap.size, 0, none⟩) n (l.map plainS) :=
  ⟨by simp [hn], hm, fun i hi => ⟨w.heap.size, 0, rfl, by
    have := h.done i (by simpa using hi) (by simp at hi; omega)
    simpa using this⟩, fun x hx => by
    obtain ⟨y, hy, rfl⟩ := List.mem_map.1 hx
    exact plainS_fits (hf y hy)⟩

end Go.Proofs.Ytplekhfnidhcoaa
