/- What the document's Plain makes. -/
import Derived.Test.YtplekhfnidhcoaaPlainW
namespace Go.Proofs.Ytplekhfnidhcoaa
open Go.RowKit

theorem sym_news (w : World) (H : Nat) (hH : w.heap.size = H) (y : Sym) : ∀ j u, (symCells [y])[j]? = some u → (w.alloc (.cells #[.string y.name, .int .i64 y.kind, .int .i64 y.arity, .string y.unit] 80)).cell? ((⟨H, 0, none⟩ : Addr).add j) = some u := by
  subst hH
  exact World.news_of_block (cs := #[.string y.name, .int .i64 y.kind, .int .i64 y.arity, .string y.unit]) (t := 80) (fr := (0, 0)) (heap_alloc_new w _)
theorem sigAt_of_owns_any {w : World} {base n : Nat} {v : Value} {l : List Sym} (h : w.ownsRow base 80 4 v n (symCells l)) (hm : n ≤ maxLen) (hf : ∀ x ∈ l, x.Fits) : ∃ a cap, v = .slice a n cap ∧ SigAt w a n l := by
  rcases h.2 with ⟨hv, h0⟩ | ⟨g, cap, cur, hv, _⟩
  · have hl := h.1
    rw [symCells_length, h0] at hl
    have : l = [] := List.length_eq_zero_iff.1 (by omega)
    subst this
    exact ⟨none, 0, by rw [hv, h0], by simp [h0], by omega, fun i hi => absurd hi (by simp), fun x hx => absurd hx (by simp)⟩
  · subst hv
    exact ⟨_, _, rfl, sigAt_of_owns h hm hf⟩
theorem plain_succ {l : List Sym} {k : Nat} (hk : k < l.length) : symCells ((l.take (k + 1)).map plainS) = symCells ((l.take k).map plainS) ++ symCells [plainS l[k]] := by
  rw [List.take_succ_eq_append_getElem hk, List.map_append, symCells_append]; rfl

theorem own_base {w : World} {base n : Nat} {e : TypeId} {z : Nat} {v : Value} {xs : List Value} (h : w.ownsRow base e z v n xs) : ∀ k, v.ownBlock = some k → base ≤ k := by
  intro k hk
  rcases h.2 with ⟨hv, _⟩ | ⟨g, cap, cur, hv, hb, _⟩
  · subst hv; cases hk
  · subst hv; cases hk; exact hb

end Go.Proofs.Ytplekhfnidhcoaa
