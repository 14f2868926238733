/- What Unit answers: the program's and the document's. -/
import Derived.Test.YtppgmepmegelbaaGreatDoorFind
namespace Go.Proofs.YtppgmepmegelbaaGreatDoor
open Go.RowKit

def unitAt (l : List Sym) (z : Int) : Option Nat := if h : 0 ≤ z ∧ z.toNat < l.length then (if (l[z.toNat]'h.2).kind = 3 then findL l (l[z.toNat]'h.2).unit else none) else none
def unitI (l : List Sym) (z : Int) : Int := match unitAt l z with | some i => i | none => 0
def unitOk (l : List Sym) (z : Int) : Bool := (unitAt l z).isSome
def UnitRet (l : List Sym) (z : Int) (e : Ending) : Prop := e = .returned (.tuple #[.int .i64 (unitI l z), .bool (unitOk l z)])

theorem unit_out {l : List Sym} {z : Int} (h : ¬ (0 ≤ z ∧ z.toNat < l.length)) : unitAt l z = none := by simp [unitAt, h]
theorem unit_not {l : List Sym} {k : Nat} (hk : k < l.length) (h : l[k].kind ≠ 3) : unitAt l k = none := by
  unfold unitAt
  rw [dif_pos ⟨by omega, by simpa using hk⟩, if_neg (by simpa using h)]
theorem unit_is {l : List Sym} {k : Nat} (hk : k < l.length) (h : l[k].kind = 3) : unitAt l k = findL l l[k].unit := by
  unfold unitAt
  rw [dif_pos ⟨by omega, by simpa using hk⟩, if_pos (by simpa using h)]
  simp
theorem unitI_none {l : List Sym} {z : Int} (h : unitAt l z = none) : unitI l z = 0 := by simp [unitI, h]
theorem unitOk_none {l : List Sym} {z : Int} (h : unitAt l z = none) : unitOk l z = false := by simp [unitOk, h]
theorem unitI_is {l : List Sym} {z : Int} {nm : ByteArray} (h : unitAt l z = findL l nm) : unitI l z = findI l nm := by unfold unitI findI; rw [h] <;> rfl
theorem unitOk_is {l : List Sym} {z : Int} {nm : ByteArray} (h : unitAt l z = findL l nm) : unitOk l z = findB l nm := by simp [unitOk, findB, h]

set_option maxHeartbeats 400000 in
theorem runit_any (a : Option Addr) (n cap : Nat) (l : List Sym) (z : Int) (w : World) (h : SigAt w a n l) :
    Calls Tryz.prog 33 #[.slice a n cap, .int .i64 z] w fun e w' => UnitRet l z e ∧ w' = w := by
  have HS : Hid (SigAt w a n l) := h
  have hm := h.small
  unfold maxLen at hm
  clear h
  by_cases h0 : z < 0
  · have hu : Hid (unitAt l z = none) := unit_out (by omega)
    go_enter Tryz.func33, Tryz.ntmps33
    go_wp2
    go_ret2
    exact ⟨by unfold UnitRet; rw [unitI_none hu.out, unitOk_none hu.out]; rfl, rfl⟩
  · obtain ⟨k, rfl⟩ := Int.eq_ofNat_of_zero_le (by omega : 0 ≤ z)
    by_cases h1 : (n : Int) ≤ k
    · have hu : Hid (unitAt l k = none) := unit_out (by have := HS.out.len; omega)
      go_enter Tryz.func33, Tryz.ntmps33
      go_wp2
      go_ret2
      exact ⟨by unfold UnitRet; rw [unitI_none hu.out, unitOk_none hu.out]; rfl, rfl⟩
    · have hlk : k < l.length := by have := HS.out.len; omega
      obtain ⟨b, off, rfl, hw⟩ := HS.out.cells k hlk
      have c1 := hw.kind
      have c3 := hw.unit
      clear hw
      cases hk : (l[k].kind != 3)
      · have hu : Hid (unitAt l k = findL l l[k].unit) := unit_is hlk (by simpa using hk)
        go_enter Tryz.func33, Tryz.ntmps33
        go_wp2_with fail
        refine (rfind_any _ _ _ l _ _ HS.out).mono ?_
        rintro e w1 ⟨he, hb⟩
        unfold FindRet at he
        subst he
        rw [hb]
        go_wp2
        go_ret2
        exact ⟨by unfold UnitRet; rw [unitI_is hu.out, unitOk_is hu.out]; rfl, rfl⟩
      · have hu : Hid (unitAt l k = none) := unit_not hlk (by simpa using hk)
        go_enter Tryz.func33, Tryz.ntmps33
        go_wp2
        go_ret2
        exact ⟨by unfold UnitRet; rw [unitI_none hu.out, unitOk_none hu.out]; rfl, rfl⟩
end Go.Proofs.YtppgmepmegelbaaGreatDoor
