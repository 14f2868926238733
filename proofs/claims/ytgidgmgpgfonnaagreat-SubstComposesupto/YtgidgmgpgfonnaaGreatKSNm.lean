import Derived.Test.YtgidgmgpgfonnaaGreatKStAll
/- Sets of names: what namesOf and has answer. -/
namespace Go.Proofs.YtgidgmgpgfonnaaGreat
open Go.RowKit Go.Deep Go.Maps

/-- Is a name among these? -/
def inL (l : List ByteArray) (s : ByteArray) : Bool := l.any fun b => decide (b = s)
theorem inL_snoc (l : List ByteArray) (s s' : ByteArray) : inL (l ++ [s]) s' = (inL l s' || decide (s = s')) := by simp [inL]
/-- A set of names in memory. -/
structure NmAt (W : World) (b n : Nat) (l : List ByteArray) : Prop where
  ex : ∃ D, MapAt W b n D ∧ ∀ s, lookD D s = if inL l s = true then some (Value.agg #[]) else none
theorem NmAt.below {W W' : World} {b n : Nat} {l : List ByteArray} (h : NmAt W b n l) (hb : Below W.heap.size W W') : NmAt W' b n l := by
  obtain ⟨D, hD, hl⟩ := h.ex
  exact ⟨D, hD.below hb, hl⟩
end Go.Proofs.YtgidgmgpgfonnaaGreat
