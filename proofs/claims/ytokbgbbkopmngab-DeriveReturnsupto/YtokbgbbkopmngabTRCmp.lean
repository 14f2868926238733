/- What the document's Compare answers of any two terms; Same. -/
import Derived.Test.YtokbgbbkopmngabTKept
import Derived.WalkSpells
import Derived.WalkLawsBesides
import Derived.Shelf.Small.Strs
import Derived.Sort.Walk0
namespace Go.Proofs.Ytokbgbbkopmngab
open Go.RowKit Go.Deep

theorem lt_bytes : ∀ a b : List UInt8, a < b ↔ Lib.compareBytes a b = -1
  | [], [] => by simp [Lib.compareBytes]
  | [], _ :: _ => by simp [Lib.compareBytes]
  | _ :: _, [] => by simp [Lib.compareBytes]
  | a :: u, b :: v => by
    have ih := lt_bytes u v
    rw [List.cons_lt_cons_iff, Lib.compareBytes, ih]
    by_cases h1 : a < b
    · simp [h1]
    · by_cases h2 : b < a
      · have : a ≠ b := fun e => by subst e; exact absurd h2 h1
        simp [h1, h2, this]
      · have h1' : ¬ a.toNat < b.toNat := fun h => h1 (UInt8.lt_iff_toNat_lt.2 h)
        have h2' : ¬ b.toNat < a.toNat := fun h => h2 (UInt8.lt_iff_toNat_lt.2 h)
        have : a = b := UInt8.toNat_inj.1 (by omega)
        simp [this]
theorem bytes_less (x y : ByteArray) : Op.bytesLess x.toList y.toList = decide (cmpS x y = -1) := by
  rw [bytesLess_eq, ByteArray.toList_eq, ByteArray.toList_eq]
  exact decide_eq_decide.2 (lt_bytes _ _)
theorem cmpS_three (x y : ByteArray) : cmpS x y = if Op.bytesLess x.toList y.toList = true then -1 else if (x.toList == y.toList) = true then 0 else 1 := by
  rw [bytes_less, ByteArray.toList_eq, ByteArray.toList_eq]
  unfold cmpS
  have hr : Lib.compareBytes x.data.toList y.data.toList = -1 ∨ Lib.compareBytes x.data.toList y.data.toList = 0 ∨ Lib.compareBytes x.data.toList y.data.toList = 1 := by
    have : ∀ a b : List UInt8, -1 ≤ Lib.compareBytes a b ∧ Lib.compareBytes a b ≤ 1 := by
      intro a
      induction a with
      | nil => intro b; cases b <;> simp [Lib.compareBytes]
      | cons p u ih =>
        intro b
        cases b with
        | nil => simp [Lib.compareBytes]
        | cons q v =>
          have := ih v
          rw [Lib.compareBytes]
          split
          · omega
          · split <;> omega
    have := this x.data.toList y.data.toList
    omega
  by_cases e : x.data.toList = y.data.toList
  · rw [e, bytes_refl]; simp
  · have h0 : Lib.compareBytes x.data.toList y.data.toList ≠ 0 := fun h => e (bytes_zero h)
    rcases hr with h | h | h
    · simp [h]
    · exact absurd h h0
    · simp only [h]
      have : (x.data.toList == y.data.toList) = false := by simpa using e
      rw [this]; rfl
end Go.Proofs.Ytokbgbbkopmngab
