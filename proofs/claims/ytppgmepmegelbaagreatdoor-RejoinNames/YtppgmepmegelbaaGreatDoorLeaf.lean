/- What the smallest functions of layer 1 answer: letters, digits, lengths. -/
import Derived.Test.YtppgmepmegelbaaGreatDoorRows
import Derived.Test.YtppgmepmegelbaaGreatDoorPlain
import Derived.WalkKit
import Derived.WalkSpells
import Derived.WalkLawsBesides
namespace Go.Proofs.YtppgmepmegelbaaGreatDoor
open Go.RowKit

theorem fits_hi {s : ByteArray} (h : 1 ≤ (s.size : Int)) : fitsB s = decide ((s.size : Int) ≤ 12) := by
  rw [Bool.eq_iff_iff]; simp [fitsB]; omega
end Go.Proofs.YtppgmepmegelbaaGreatDoor
