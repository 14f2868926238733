/- What Var of package sig answers of any text: it goes through the runes. -/
import Derived.Test.YtokbgbbkopmngaaGreatLeaf
namespace Go.Proofs.YtokbgbbkopmngaaGreat
open Go.RowKit

theorem numbered_no {s : ByteArray} (k : Nat) (hk : k < s.size) (h : okNum k ((s[k]'hk).toNat : Int) = false) : numberedB s = false := by
  unfold numberedB; rw [allB_false hk (by rw [bt_of hk]; exact h)]; simp
end Go.Proofs.YtokbgbbkopmngaaGreat
