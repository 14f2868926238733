/- What lent makes: the signature in new memory, with a mark behind. -/
import Derived.Test.YtplekhfnidhcoaaRow
namespace Go.Proofs.Ytplekhfnidhcoaa
open Go.RowKit

def markS : Sym := ⟨⟨#[109, 97, 114, 107]⟩, 0, 0, ⟨#[]⟩⟩

/-- A slice of n symbols, with room for one more, behind which the mark lies; all of it from block 'base' on. -/
structure Lent (w : World) (base : Nat) (v : Value) (n : Nat) (l : List Sym) : Prop where
  is : ∃ g cap, v = .slice (some ⟨g, 0, none⟩) n cap ∧ base ≤ g ∧ n + 1 ≤ cap ∧ SigAt w (some ⟨g, 0, none⟩) (n + 1) (l ++ [markS])

theorem own_empty (w : World) : (w.alloc (.cells #[] 80)).ownsRow w.heap.size 80 4 (.slice (some ⟨w.heap.size, 0, none⟩) 0 0) 0 [] :=
  ⟨rfl, Or.inr ⟨w.heap.size, 0, #[], rfl, Nat.le_refl _, heap_alloc_new w _, Nat.le_refl _, by simp, rfl, rfl⟩⟩
theorem own_cap {w : World} {base g n cap : Nat} {xs : List Value} (h : w.ownsRow base 80 4 (.slice (some ⟨g, 0, none⟩) n cap) n xs) : base ≤ g ∧ n ≤ cap ∧ cap ≤ maxLen := by
  rcases h.2 with ⟨hv, _⟩ | ⟨g', cap', cur, hv, hb, _, hnc, hm, _⟩
  · cases hv
  · simp only [Value.slice.injEq, Option.some.injEq, Addr.mk.injEq, and_true, true_and] at hv
    obtain ⟨rfl, rfl⟩ := hv
    exact ⟨hb, hnc, hm⟩
theorem mark_fits : markS.Fits := ⟨by decide, by decide⟩
theorem mark_news (w : World) (H : Nat) (hH : w.heap.size = H) : ∀ j u, (symCells [markS])[j]? = some u → (w.alloc (.cells #[.string ⟨#[109, 97, 114, 107]⟩, .int .i64 0, .int .i64 0, .string ⟨#[]⟩] 80)).cell? ((⟨H, 0, none⟩ : Addr).add j) = some u := by
  subst hH
  exact World.news_of_block (cs := #[.string ⟨#[109, 97, 114, 107]⟩, .int .i64 0, .int .i64 0, .string ⟨#[]⟩]) (t := 80) (fr := (0, 0)) (heap_alloc_new w _)

end Go.Proofs.Ytplekhfnidhcoaa
