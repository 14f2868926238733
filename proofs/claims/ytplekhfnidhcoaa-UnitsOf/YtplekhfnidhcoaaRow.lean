/- Signatures that the call itself has made: rows of cells. -/
import Derived.Test.YtplekhfnidhcoaaSigMem
import Derived.Deep.AppendLies
import Derived.Deep.AppendSrc
namespace Go.Proofs.Ytplekhfnidhcoaa
open Go.RowKit

def Sym.cells (x : Sym) : List Value := [.string x.name, .int .i64 x.kind, .int .i64 x.arity, .string x.unit]
def symCells (l : List Sym) : List Value := l.flatMap Sym.cells

theorem symCells_nil : symCells [] = [] := rfl
theorem symCells_cons (x : Sym) (l : List Sym) : symCells (x :: l) = .string x.name :: .int .i64 x.kind :: .int .i64 x.arity :: .string x.unit :: symCells l := rfl
theorem symCells_append (l m : List Sym) : symCells (l ++ m) = symCells l ++ symCells m := by simp [symCells]
theorem symCells_one (x : Sym) : symCells [x] = [.string x.name, .int .i64 x.kind, .int .i64 x.arity, .string x.unit] := rfl
theorem symCells_length : ∀ l : List Sym, (symCells l).length = l.length * 4
  | [] => rfl
  | x :: l => by rw [symCells_cons]; simp [symCells_length l]; omega
theorem symCells_oneCell (l : List Sym) : ∀ u ∈ symCells l, u.oneCell' = true := by
  intro u hu
  simp only [symCells, List.mem_flatMap, Sym.cells, List.mem_cons, List.not_mem_nil, or_false] at hu
  obtain ⟨x, _, h | h | h | h⟩ := hu <;> subst h <;> rfl
theorem symCells_at : ∀ (l : List Sym) (i : Nat) (h : i < l.length),
    (symCells l)[i * 4]? = some (.string l[i].name) ∧ (symCells l)[i * 4 + 1]? = some (.int .i64 l[i].kind) ∧ (symCells l)[i * 4 + 2]? = some (.int .i64 l[i].arity) ∧ (symCells l)[i * 4 + 3]? = some (.string l[i].unit)
  | [], i, h => absurd h (by simp)
  | x :: l, 0, h => by rw [symCells_cons]; simp
  | x :: l, i + 1, h => by
    have ih := symCells_at l i (by simpa using h)
    rw [symCells_cons]
    rw [show (i + 1) * 4 = i * 4 + 1 + 1 + 1 + 1 by omega, show i * 4 + 1 + 1 + 1 + 1 + 1 = (i * 4 + 1) + 1 + 1 + 1 + 1 by omega, show i * 4 + 1 + 1 + 1 + 1 + 2 = (i * 4 + 2) + 1 + 1 + 1 + 1 by omega, show i * 4 + 1 + 1 + 1 + 1 + 3 = (i * 4 + 3) + 1 + 1 + 1 + 1 by omega]
    simp only [List.getElem?_cons_succ, List.getElem_cons_succ]
    exact ih

/-- Where a signature lies, as one row of cells. -/
theorem news_of_syms {w : World} {b : Nat} : ∀ (l : List Sym) (off : Nat), (∀ i (h : i < l.length), SymAt w b (off + i * 4) l[i]) → ∀ j u, (symCells l)[j]? = some u → w.cell? ⟨b, off + j, none⟩ = some u
  | [], _, _, j, u, hu => by simp [symCells_nil] at hu
  | x :: l, off, h, j, u, hu => by
    have h0 := h 0 (by simp)
    simp only [Nat.zero_mul, Nat.add_zero, List.getElem_cons_zero] at h0
    rw [symCells_cons] at hu
    match j, hu with
    | 0, hu => simp at hu; subst hu; exact h0.name
    | 1, hu => simp at hu; subst hu; exact h0.kind
    | 2, hu => simp at hu; subst hu; exact h0.arity
    | 3, hu => simp at hu; subst hu; exact h0.unit
    | j + 4, hu =>
      simp only [List.getElem?_cons_succ] at hu
      have := news_of_syms l (off + 4) (fun i hi => by
        have := h (i + 1) (by simpa using hi)
        simp only [List.getElem_cons_succ] at this
        rw [show off + 4 + i * 4 = off + (i + 1) * 4 by omega]
        exact this) j u hu
      rw [show off + (j + 4) = off + 4 + j by omega]
      exact this

/-- A row that is known whole holds the signature. -/
theorem sigAt_of_row {w : World} {g n : Nat} {l : List Sym} {cur : Array Value} {e : TypeId} {fr : Nat × Nat} (hh : w.heap[g]? = some (.cells cur e fr)) (hn : n = l.length) (hm : n ≤ maxLen) (hc : cur.toList.take (n * 4) = symCells l) (hf : ∀ x ∈ l, x.Fits) :
    SigAt w (some ⟨g, 0, none⟩) n l := by
  refine ⟨hn, hm, fun i hi => ⟨g, 0, rfl, ?_⟩, hf⟩
  have hat := symCells_at l i hi
  have key : ∀ j, j < n * 4 → w.cell? ⟨g, 0 + j, none⟩ = (symCells l)[j]? := by
    intro j hj
    rw [Nat.zero_add, cell_of_row w g j cur e fr hh, ← hc, List.getElem?_take_of_lt hj]
    simp
  exact ⟨by rw [key _ (by omega)]; exact hat.1, by rw [Nat.add_assoc, key _ (by omega)]; exact hat.2.1, by rw [Nat.add_assoc, key _ (by omega)]; exact hat.2.2.1, by rw [Nat.add_assoc, key _ (by omega)]; exact hat.2.2.2⟩

theorem sigAt_of_owns {w : World} {base g n cap : Nat} {l : List Sym} (h : w.ownsRow base 80 4 (.slice (some ⟨g, 0, none⟩) n cap) n (symCells l)) (hm : n ≤ maxLen) (hf : ∀ x ∈ l, x.Fits) : SigAt w (some ⟨g, 0, none⟩) n l := by
  obtain ⟨hl, h⟩ := h
  rw [symCells_length] at hl
  rcases h with ⟨hv, _⟩ | ⟨g', cap', cur, hv, _, hh, hnc, _, hsz, hcur⟩
  · cases hv
  · simp only [Value.slice.injEq, Option.some.injEq, Addr.mk.injEq, and_true, true_and] at hv
    obtain ⟨rfl, rfl⟩ := hv
    exact sigAt_of_row hh (by omega) hm hcur hf

theorem Try.info80 : (Try.prog.info? 80).map (fun i => (i.zero, i.size, i.bytes)) = some (some (.agg #[.string ⟨#[]⟩, .int .i64 0, .int .i64 0, .string ⟨#[]⟩]), 4, 48) := by kernel_rfl
end Go.Proofs.Ytplekhfnidhcoaa
