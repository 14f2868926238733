/- How many nodes, and what is wrong node by node: the document's Check, whole. -/
import Derived.Test.YtkcbhbkldcebiabTRChk
namespace Go.Proofs.Ytkcbhbkldcebiab
open Go.RowKit Go.Deep

theorem ov_range (F : Fo) (m : Int) (h1 : -1 ≤ m) (h2 : m ≤ 40) : -1 ≤ ovF F m ∧ ovF F m ≤ 40 := by
  by_cases h : m < 0
  · rw [ov_neg F m h]; omega
  · rw [ov_is F m (by omega)]
    split <;> omega
/-- The box of a function of one term. -/
structure One (w : World) (x : ByteArray × Int) (a : Option Addr) (n c : Nat) (W : World) : Prop where
  low : Below w.heap.size w W
  t : TBox W w.heap.size x a n c
theorem One.new (w : World) (x : ByteArray × Int) (a : Option Addr) (n c : Nat) : One w x a n c (w.alloc (.cells #[.string x.1, .int .i64 x.2, .slice a n c] 27)) := ⟨(Below.refl _ w).alloc (Nat.le_refl _) _, TBox.new _ _ _ _ _⟩
theorem One.below {w : World} {x : ByteArray × Int} {a : Option Addr} {n c : Nat} {W W' : World} (h : One w x a n c W) (hb : Below W.heap.size W W') : One w x a n c W' := ⟨h.low.trans (hb.mono h.low.size), h.t.below hb⟩

end Go.Proofs.Ytkcbhbkldcebiab
