/- A statement whose order is open, whose calls may make memory but turn nothing that was there: one walk in the text's order serves. -/
import Derived.WalkKit
import Derived.WalkSpells
import Derived.BigQuiet
namespace Go.Proofs.YtppgmepmegelbaaGreatDoor
open Go.RowKit

/-- A world in which all that was there is as it was. -/
structure Later (w : World) where
  now : World
  below : Below w.heap.size w now

theorem later_some (w : World) : Nonempty (Later w) := ⟨⟨w, Below.refl _ _⟩⟩

theorem wp_region_later {P : Program} {id : Nat} {Q : Exit → Act → World → Prop} {a : Act} {w : World} {l : List Oper} (hm : P.follows .mixedOrders = true) (hB : Region.lexB .any l.toArray = true)
    (h : wpQuiet P l.toArray (fun w' => ∃ b : Later w, w' = b.now) (fun a' => ∀ w', (∃ b : Later w, w' = b.now) → Q .normal a' w') l a) : (Code.region id l.toArray true).wp P Q a w :=
  wp_region_quiet (C := fun w' => ∃ b : Later w, w' = b.now) hm hB ⟨⟨w.drew, (Below.refl _ _).drew⟩, rfl⟩ (by simpa using h)

/-- A callee's contract, met in a later world. -/
theorem calls_later {P : Program} {f : FuncId} {args : Array Value} {w : World} {b : Later w} {v : Value}
    (h : Calls P f args b.now fun e w' => e = .returned v ∧ Below b.now.heap.size b.now w') : Calls P f args b.now fun e w'' => e = .returned v ∧ ∃ b' : Later w, w'' = b'.now :=
  h.mono fun _ w' ⟨he, hb⟩ => ⟨he, ⟨w', b.below.trans (hb.mono b.below.size)⟩, rfl⟩
theorem calls_later_same {P : Program} {f : FuncId} {args : Array Value} {w : World} {b : Later w} {v : Value}
    (h : Calls P f args b.now fun e w' => e = .returned v ∧ w' = b.now) : Calls P f args b.now fun e w'' => e = .returned v ∧ ∃ b' : Later w, w'' = b'.now :=
  h.mono fun _ _ ⟨he, hb⟩ => ⟨he, b, hb⟩
theorem later_cell {w : World} {p : Addr} {v : Value} (h : w.cell? p = some v) (b : Later w) : b.now.cell? p = some v := by
  rw [b.below.cell (World.block_lt_of_cell? w p h)]; exact h
end Go.Proofs.YtppgmepmegelbaaGreatDoor
