import Derived.Test.YtgidgmgpgfonnaaGreatKSKept
/- The box of what a statement of layer 7 is asked about. -/
namespace Go.Proofs.YtgidgmgpgfonnaaGreat
open Go.RowKit Go.Deep

/-- What was handed in, and its box. -/
structure InS (w : World) (cs : Array Value) (W : World) : Prop where
  low : Below w.heap.size w W
  box : Box W w.heap.size 30 cs
theorem InS.below {w W W' : World} {cs : Array Value} (h : InS w cs W) (hb : Below W.heap.size W W') : InS w cs W' := ⟨h.low.trans (hb.mono h.low.size), h.box.below hb⟩
theorem InS.new (w : World) (cs : Array Value) : InS w cs (w.alloc (.cells cs 30)) := ⟨(Below.refl _ w).alloc (Nat.le_refl _) _, Box.new w 30 cs⟩
end Go.Proofs.YtgidgmgpgfonnaaGreat
