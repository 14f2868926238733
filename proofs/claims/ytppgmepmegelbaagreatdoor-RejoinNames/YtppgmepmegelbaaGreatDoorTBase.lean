/- Boxes and rows in memory, what stays of them. -/
import Derived.Test.YtppgmepmegelbaaGreatDoorRows
import Derived.Test.YtppgmepmegelbaaGreatDoorTMem
import Derived.RangeFuncNested
import Derived.RangeFuncBound
import Derived.RangeFuncCalls
import Derived.RangeFuncLeaves
import Derived.Shelf.Abstract
import Derived.Shelf.RegionOpen
import Derived.OwnWalkIn
import Derived.TacticsInMore
import Derived.LoopNIn
import Derived.LoopIn
import Derived.Deep.AppendLies
import Derived.Deep.AppendSrc
import Derived.Laws.EntriesVeiled
import Derived.WalkKit
namespace Go.Proofs.YtppgmepmegelbaaGreatDoor
open Go.RowKit Go.Shelf Go.Deep

theorem boxed_below {W W' : World} {B : Nat} {t : TypeId} {v : Value} (h : Boxed W B t v) (hb : Below W.heap.size W W') : Boxed W' B t v := (hb.block B h.lt).trans h
theorem grown_of_below {A B : World} (h : Below A.heap.size A B) : A.grownBy B none := ⟨h.os, h.tape, h.output, h.size, fun k hk _ => h.block k hk⟩
theorem owns_below {W W' : World} {base e size k : Nat} {v : Value} {xs : List Value} (h : W.ownsRow base e size v k xs) (hb : Below W.heap.size W W') : W'.ownsRow base e size v k xs :=
  h.kept (grown_of_below hb) (by cases v.ownBlock with
    | none => exact .inl rfl
    | some g => exact .inr (by simp))
theorem Tryz.info3 : (Tryz.prog.info? 3).map (fun i => (i.zero, i.size, i.bytes)) = some (some (.int .i64 0), 1, 8) := by kernel_rfl
theorem owns_block {W W' : World} {base e size k : Nat} {v : Value} {xs : List Value} (h : W.ownsRow base e size v k xs) (hb : ∀ g, v.ownBlock = some g → W'.heap[g]? = W.heap[g]?) : W'.ownsRow base e size v k xs := by
  refine ⟨h.1, ?_⟩
  rcases h.2 with h1 | ⟨g, cap, cur, rfl, h2, h3, h4⟩
  · exact .inl h1
  · exact .inr ⟨g, cap, cur, rfl, h2, (hb g rfl).trans h3, h4⟩
theorem owns_cells {W : World} {base e size k g : Nat} {v : Value} {xs : List Value} (h : W.ownsRow base e size v k xs) (hg : v.ownBlock = some g) : base ≤ g ∧ ∃ cur, W.heap[g]? = some (Obj.cells cur e (0, 0)) := by
  rcases h.2 with ⟨rfl, _⟩ | ⟨g', cap, cur, rfl, h2, h3, h4⟩
  · simp [Value.ownBlock] at hg
  · simp only [Value.ownBlock, Option.some.injEq] at hg
    subst hg
    exact ⟨h2, cur, h3⟩
def intsV (l : List Int) : List Value := l.map (Value.int .i64)
def TBox (W : World) (B : Nat) (x : ByteArray × Int) (a : Option Addr) (n c : Nat) : Prop := W.heap[B]? = some (.cells #[.string x.1, .int .i64 x.2, .slice a n c] 28 (0, 0))
theorem TBox.c0 {W : World} {B : Nat} {x : ByteArray × Int} {a : Option Addr} {n c : Nat} (h : TBox W B x a n c) : W.cell? ⟨B, 0, none⟩ = some (.string x.1) := by simp [World.cell?, show W.heap[B]? = _ from h]
theorem TBox.c1 {W : World} {B : Nat} {x : ByteArray × Int} {a : Option Addr} {n c : Nat} (h : TBox W B x a n c) : W.cell? ⟨B, 1, none⟩ = some (.int .i64 x.2) := by simp [World.cell?, show W.heap[B]? = _ from h]
theorem TBox.c2 {W : World} {B : Nat} {x : ByteArray × Int} {a : Option Addr} {n c : Nat} (h : TBox W B x a n c) : W.cell? ⟨B, 2, none⟩ = some (.slice a n c) := by simp [World.cell?, show W.heap[B]? = _ from h]
theorem TBox.new (W : World) (x : ByteArray × Int) (a : Option Addr) (n c : Nat) : TBox (W.alloc (.cells #[.string x.1, .int .i64 x.2, .slice a n c] 28)) W.heap.size x a n c := World.alloc_heap_new W _
theorem TBox.lt {W : World} {B : Nat} {x : ByteArray × Int} {a : Option Addr} {n c : Nat} (h : TBox W B x a n c) : B < W.heap.size := (Array.getElem?_eq_some_iff.1 h).1
theorem TBox.below {W W' : World} {B : Nat} {x : ByteArray × Int} {a : Option Addr} {n c : Nat} (h : TBox W B x a n c) (hb : Below W.heap.size W W') : TBox W' B x a n c := (hb.block B h.lt).trans h
theorem owns_base {W : World} {base base' e size k : Nat} {v : Value} {xs : List Value} (h : W.ownsRow base e size v k xs) (hb : base' ≤ base) : W.ownsRow base' e size v k xs := by
  refine ⟨h.1, ?_⟩
  rcases h.2 with h1 | ⟨g, cap, cur, rfl, h2, h3⟩
  · exact .inl h1
  · exact .inr ⟨g, cap, cur, rfl, by omega, h3⟩
end Go.Proofs.YtppgmepmegelbaaGreatDoor
