/- What Name of package sig answers of any text: it goes through the runes. -/
import Derived.Test.YtppgmepmegelbaaGreatDoorLeaf
namespace Go.Proofs.YtppgmepmegelbaaGreatDoor
open Go.RowKit

theorem okName_high {j : Nat} {c : Int} (h : 128 ≤ c) : okName j c = false := by
  simp [okName, lowZ, digZ]; omega
theorem okVar_high {j : Nat} {c : Int} (h : 128 ≤ c) : okVar j c = false := by
  simp [okVar, lowZ, digZ, upZ]; omega
theorem lowZ_high {c : Int} (h : 128 ≤ c) : lowZ c = false := by simp [lowZ]; omega
theorem upZ_high {c : Int} (h : 128 ≤ c) : upZ c = false := by simp [upZ]; omega
theorem digZ_high {c : Int} (h : 128 ≤ c) : digZ c = false := by simp [digZ]; omega
theorem below_iter (w : World) (s : ByteArray) (p : Nat) : Below w.heap.size w (w.iter s p) := (Below.refl _ _).alloc (Nat.le_refl _) _

end Go.Proofs.YtppgmepmegelbaaGreatDoor
