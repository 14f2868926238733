/- What Var of package sig answers of any text: it goes through the runes. -/
import Derived.Test.YtppgmepmegelbaaGreatDoorSName
namespace Go.Proofs.YtppgmepmegelbaaGreatDoor
open Go.RowKit

theorem ext_size (s : ByteArray) : (s.extract 1 s.size).size = s.size - 1 := by simp
theorem ext_at (s : ByteArray) (j : Nat) (h : j < (s.extract 1 s.size).size) (h' : j + 1 < s.size) : (s.extract 1 s.size)[j]'h = s[j + 1]'h' := by
  rw [ByteArray.getElem_extract]; congr 1; omega
theorem numbered_no {s : ByteArray} (k : Nat) (hk : k < s.size) (h : okNum k ((s[k]'hk).toNat : Int) = false) : numberedB s = false := by
  unfold numberedB; rw [allB_false hk (by rw [bt_of hk]; exact h)]; simp
theorem okNum_high {j : Nat} {c : Int} (h : 128 ≤ c) : okNum j c = false := by
  simp [okNum, digZ]; omega

end Go.Proofs.YtppgmepmegelbaaGreatDoor
