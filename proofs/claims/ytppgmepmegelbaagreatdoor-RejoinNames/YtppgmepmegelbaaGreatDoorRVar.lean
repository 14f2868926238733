/- What the document's Var answers of any text. -/
import Derived.Test.YtppgmepmegelbaaGreatDoorSVar
namespace Go.Proofs.YtppgmepmegelbaaGreatDoor
open Go.RowKit

theorem var_num {s : ByteArray} (hf : fitsB s = true) (hp : 0 < s.size) (h : ((s[0]'hp).toNat : Int) = 95) : varB s = numberedB s := by
  unfold varB writtenB
  rw [hf, allB_false hp (by rw [bt_of hp, h]; rfl)]; simp
theorem var_writ {s : ByteArray} (hf : fitsB s = true) (hp : 0 < s.size) (h : ((s[0]'hp).toNat : Int) ≠ 95) : varB s = writtenB s := by
  unfold varB
  rw [hf, numbered_no 0 hp (by simp [okNum, h])]; simp
theorem okNum_two {j : Nat} {c : Int} (h : 2 ≤ j) : okNum j c = digZ c := by
  have h0 : ¬ j = 0 := by omega
  have h1 : ¬ j = 1 := by omega
  simp [okNum, h, h0, h1]

end Go.Proofs.YtppgmepmegelbaaGreatDoor
