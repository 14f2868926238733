/- The walk of BagBack. -/
import Derived.Test.YtlbmamkkbpjafabBBackP
namespace Go.Proofs.Ytlbmamkkbpjafab
open Go.RowKit Go.Deep

theorem bag_mono {base base' B : Nat} {W : World} {l : List It} {p : Option Addr} {c : Nat} (h : BagAt base B W l p c) (hb : base' ≤ base) : BagAt base' B W l p c := ⟨h.1, owns65_mono h.2.1 hb, h.2.2⟩
theorem len_bag (B base : Nat) (p : Option Addr) (c : Nat) (l : List It) (w : World) (hA : BagAt base B w l p c) (hl : Bg l) (hn : l.length ≤ 1048576) : Calls Try.prog 11 #[.pointer (some ⟨B, 0, none⟩)] w fun e w' => e = .returned (.int .i64 (sumN l)) ∧ Below w.heap.size w w' :=
  len_any B p c l w hA.1 (owns_its hA.2.1) hn (fun k _ => by have := sumN_bd l hl.pos k; have := hl.sum; omega) (fun i h => by have := sumN_le l hl.pos i h; have := hl.sum; omega)
end Go.Proofs.Ytlbmamkkbpjafab
