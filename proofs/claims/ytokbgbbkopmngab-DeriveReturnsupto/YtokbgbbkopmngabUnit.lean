/- What Unit answers: the program's and the document's. -/
import Derived.Test.YtokbgbbkopmngabFind
namespace Go.Proofs.Ytokbgbbkopmngab
open Go.RowKit

def unitAt (l : List Sym) (z : Int) : Option Nat := if h : 0 ≤ z ∧ z.toNat < l.length then (if (l[z.toNat]'h.2).kind = 3 then findL l (l[z.toNat]'h.2).unit else none) else none
def unitI (l : List Sym) (z : Int) : Int := match unitAt l z with | some i => i | none => 0
def unitOk (l : List Sym) (z : Int) : Bool := (unitAt l z).isSome
def UnitRet (l : List Sym) (z : Int) (e : Ending) : Prop := e = .returned (.tuple #[.int .i64 (unitI l z), .bool (unitOk l z)])

theorem unit_out {l : List Sym} {z : Int} (h : ¬ (0 ≤ z ∧ z.toNat < l.length)) : unitAt l z = none := by simp [unitAt, h]
theorem unit_not {l : List Sym} {k : Nat} (hk : k < l.length) (h : l[k].kind ≠ 3) : unitAt l k = none := by
  unfold unitAt
  rw [dif_pos ⟨by omega, by simpa using hk⟩, if_neg (by simpa using h)]
theorem unit_is {l : List Sym} {k : Nat} (hk : k < l.length) (h : l[k].kind = 3) : unitAt l k = findL l l[k].unit := by
  unfold unitAt
  rw [dif_pos ⟨by omega, by simpa using hk⟩, if_pos (by simpa using h)]
  simp
theorem unitI_none {l : List Sym} {z : Int} (h : unitAt l z = none) : unitI l z = 0 := by simp [unitI, h]
theorem unitOk_none {l : List Sym} {z : Int} (h : unitAt l z = none) : unitOk l z = false := by simp [unitOk, h]
theorem unitI_is {l : List Sym} {z : Int} {nm : ByteArray} (h : unitAt l z = findL l nm) : unitI l z = findI l nm := by unfold unitI findI; rw [h] <;> rfl
theorem unitOk_is {l : List Sym} {z : Int} {nm : ByteArray} (h : unitAt l z = findL l nm) : unitOk l z = findB l nm := by simp [unitOk, findB, h]

end Go.Proofs.Ytokbgbbkopmngab
