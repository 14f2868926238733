/- What Check answers, plainly: the first symbol that may not be. -/
import Derived.Test.YtppgmepmegelbaaGreatDoorRight
namespace Go.Proofs.YtppgmepmegelbaaGreatDoor
open Go.RowKit

def errAt (l : List Sym) (i : Nat) : Int := if h : i < l.length then symErr (l.take i) l[i] else 0
def firstErr (l : List Sym) : Option Nat := (List.range l.length).find? fun i => errAt l i != 0
def checkE (l : List Sym) : Int := if 16 < l.length then 15 else match firstErr l with | some i => errAt l i | none => 0
def checkP (l : List Sym) : Int := if 16 < l.length then 0 else match firstErr l with | some i => (i : Int) | none => 0

theorem firstErr_hit {l : List Sym} {k : Nat} (hk : k < l.length) (h : errAt l k ≠ 0) (hno : ∀ j, j < k → errAt l j = 0) : firstErr l = some k := by
  unfold firstErr
  rw [List.find?_range_eq_some]
  refine ⟨by simpa using h, by simpa using hk, fun j hj => by simp [hno j hj]⟩
theorem firstErr_miss {l : List Sym} (hno : ∀ j, j < l.length → errAt l j = 0) : firstErr l = none := by
  unfold firstErr
  rw [List.find?_eq_none]
  intro j hj
  simp only [List.mem_range] at hj
  simp [hno j hj]
theorem checkE_hit {l : List Sym} {k : Nat} (h16 : ¬ 16 < l.length) (h : firstErr l = some k) : checkE l = errAt l k := by simp [checkE, h16, h]
theorem checkP_hit {l : List Sym} {k : Nat} (h16 : ¬ 16 < l.length) (h : firstErr l = some k) : checkP l = k := by simp [checkP, h16, h]
theorem checkE_miss {l : List Sym} (h16 : ¬ 16 < l.length) (h : firstErr l = none) : checkE l = 0 := by simp [checkE, h16, h]
theorem checkP_miss {l : List Sym} (h16 : ¬ 16 < l.length) (h : firstErr l = none) : checkP l = 0 := by simp [checkP, h16, h]

theorem symErr_unit {l : List Sym} {x : Sym} (h : symErr l x = 0) : unitB l x = true := by
  unfold symErr at h
  split at h
  · omega
  · split at h
    · omega
    · split at h
      · omega
      · split at h
        · omega
        · rename_i hu; simpa using hu
theorem unitB2_eq {l : List Sym} {x : Sym} (h : ∀ y ∈ l, y.kind = 1 → emptyB y.unit = true) : unitB2 l x = unitB l x := by
  unfold unitB2 unitB
  split
  · rw [Bool.eq_iff_iff, List.any_eq_true, List.any_eq_true]
    constructor
    · rintro ⟨y, hy, h1⟩; exact ⟨y, hy, by simp at h1; exact h1.1⟩
    · rintro ⟨y, hy, h1⟩
      refine ⟨y, hy, ?_⟩
      rw [h1, h y hy (by simp [isUnit] at h1; exact h1.1.1)]; rfl
  · rfl
theorem free_empty {l : List Sym} {k : Nat} (hk : k ≤ l.length) (hno : ∀ j, j < k → errAt l j = 0) : ∀ y ∈ l.take k, y.kind = 1 → emptyB y.unit = true := by
  intro y hy h1
  obtain ⟨j, hj, rfl⟩ := List.getElem_of_mem hy
  have hjk : j < k := by simp at hj; omega
  have hjl : j < l.length := by omega
  have h0 := hno j hjk
  unfold errAt at h0
  rw [dif_pos hjl] at h0
  have hu := symErr_unit h0
  have e : (l.take k)[j] = l[j] := by simp
  rw [e] at h1 ⊢
  unfold unitB at hu
  rw [if_neg (by omega)] at hu
  exact hu
theorem SigAt.take {w : World} {a : Option Addr} {n : Nat} {l : List Sym} (h : SigAt w a n l) (k : Nat) (hk : k ≤ n) : SigAt w a k (l.take k) :=
  ⟨by have := h.len; simp; omega, by have := h.small; omega, fun i hi => by
    have hi' : i < l.length := by simp at hi; omega
    obtain ⟨b, off, ha, hc⟩ := h.cells i hi'
    exact ⟨b, off, ha, by simpa using hc⟩, fun x hx => h.fits x (List.mem_of_mem_take hx)⟩
end Go.Proofs.YtppgmepmegelbaaGreatDoor
