/- What rightArity, rightUnit and checkSymbol answer. -/
import Derived.Test.YtppgmepmegelbaaGreatDoorFind
namespace Go.Proofs.YtppgmepmegelbaaGreatDoor
open Go.RowKit

def unitB2 (l : List Sym) (x : Sym) : Bool := if x.kind = 3 then l.any (fun y => isUnit x y && emptyB y.unit) else emptyB x.unit
theorem unitB2_not {l : List Sym} {x : Sym} (hk : x.kind ≠ 3) : unitB2 l x = emptyB x.unit := by simp [unitB2, hk]
theorem unitB2_hit {l : List Sym} {x : Sym} (hk : x.kind = 3) {k : Nat} (hlk : k < l.length) (h : (isUnit x l[k] && emptyB l[k].unit) = true) : unitB2 l x = true := by
  unfold unitB2
  rw [if_pos hk, List.any_eq_true]
  exact ⟨l[k], List.getElem_mem hlk, h⟩
theorem unitB2_miss {l : List Sym} {x : Sym} (hk : x.kind = 3) (h : ∀ j (hj : j < l.length), (isUnit x l[j] && emptyB l[j].unit) = false) : unitB2 l x = false := by
  unfold unitB2
  rw [if_pos hk, List.any_eq_false]
  intro y hy
  obtain ⟨j, hj, rfl⟩ := List.getElem_of_mem hy
  rw [h j hj]; simp

end Go.Proofs.YtppgmepmegelbaaGreatDoor
