/- Signatures as plain lists: what is found, what is right; and where they lie in memory. -/
import Derived.Test.YtppgmepmegelbaaGreatDoorSVar
namespace Go.Proofs.YtppgmepmegelbaaGreatDoor
open Go.RowKit

structure Sym where
  name : ByteArray
  kind : Int
  arity : Int
  unit : ByteArray

def Sym.val (x : Sym) : Value := .agg #[.string x.name, .int .i64 x.kind, .int .i64 x.arity, .string x.unit]

/-! ### plain -/
def sameB (a b : ByteArray) : Bool := a.toList == b.toList
def findL (l : List Sym) (nm : ByteArray) : Option Nat := l.findIdx? fun x => sameB x.name nm
def findI (l : List Sym) (nm : ByteArray) : Int := match findL l nm with | some i => i | none => 0
def findB (l : List Sym) (nm : ByteArray) : Bool := (findL l nm).isSome

theorem find_hit {l : List Sym} {nm : ByteArray} {k : Nat} (hk : k < l.length) (h : sameB l[k].name nm = true) (hno : ∀ j (hj : j < l.length), j < k → sameB l[j].name nm = false) : findL l nm = some k := by
  unfold findL
  rw [List.findIdx?_eq_some_iff_getElem]
  exact ⟨hk, h, fun j hj => by rw [hno j (by omega) hj]; simp⟩
theorem find_miss {l : List Sym} {nm : ByteArray} (hno : ∀ j (hj : j < l.length), sameB l[j].name nm = false) : findL l nm = none := by
  unfold findL
  rw [List.findIdx?_eq_none_iff]
  intro x hx
  obtain ⟨j, hj, rfl⟩ := List.getElem_of_mem hx
  exact hno j hj
theorem findI_some {l : List Sym} {nm : ByteArray} {k : Nat} (h : findL l nm = some k) : findI l nm = k := by simp [findI, h]
theorem findB_some {l : List Sym} {nm : ByteArray} {k : Nat} (h : findL l nm = some k) : findB l nm = true := by simp [findB, h]
theorem findI_none {l : List Sym} {nm : ByteArray} (h : findL l nm = none) : findI l nm = 0 := by simp [findI, h]
theorem findB_none {l : List Sym} {nm : ByteArray} (h : findL l nm = none) : findB l nm = false := by simp [findB, h]

def arityB (x : Sym) : Bool := if x.kind = 1 then decide (0 ≤ x.arity) && decide (x.arity ≤ 4) else decide (x.arity = 2)
def emptyB (s : ByteArray) : Bool := s.toList.isEmpty
def isUnit (x y : Sym) : Bool := decide (y.kind = 1) && decide (y.arity = 0) && sameB y.name x.unit
def unitB (l : List Sym) (x : Sym) : Bool := if x.kind = 3 then l.any (isUnit x) else emptyB x.unit
def kindB (x : Sym) : Bool := decide (x.kind = 1) || decide (x.kind = 2) || decide (x.kind = 3)
/-- What is wrong with a symbol behind others. -/
def symErr (l : List Sym) (x : Sym) : Int :=
  if findB l x.name = true ∨ nameB x.name = false then 11 else if kindB x = false then 12 else if arityB x = false then 13 else if unitB l x = false then 14 else 0

/-! ### memory -/
structure SymAt (w : World) (b o : Nat) (x : Sym) : Prop where
  name : w.cell? ⟨b, o, none⟩ = some (.string x.name)
  kind : w.cell? ⟨b, o + 1, none⟩ = some (.int .i64 x.kind)
  arity : w.cell? ⟨b, o + 2, none⟩ = some (.int .i64 x.arity)
  unit : w.cell? ⟨b, o + 3, none⟩ = some (.string x.unit)

theorem SymAt.below {w w' : World} {b o : Nat} {x : Sym} (h : SymAt w b o x) (hb : Below w.heap.size w w') : SymAt w' b o x := by
  have hlt : b < w.heap.size := World.block_lt_of_cell? w _ h.name
  exact ⟨by rw [hb.cell (p := ⟨b, o, none⟩) hlt]; exact h.name, by rw [hb.cell (p := ⟨b, o + 1, none⟩) hlt]; exact h.kind,
    by rw [hb.cell (p := ⟨b, o + 2, none⟩) hlt]; exact h.arity, by rw [hb.cell (p := ⟨b, o + 3, none⟩) hlt]; exact h.unit⟩

/-- Each text is short enough to be one. -/
structure Sym.Fits (x : Sym) : Prop where
  name : x.name.size ≤ maxLen
  unit : x.unit.size ≤ maxLen

/-- The slice with this address and length holds these symbols. -/
structure SigAt (w : World) (a : Option Addr) (n : Nat) (l : List Sym) : Prop where
  len : n = l.length
  small : n ≤ maxLen
  cells : ∀ i (h : i < l.length), ∃ b off, a = some ⟨b, off, none⟩ ∧ SymAt w b (off + i * 4) l[i]
  fits : ∀ x ∈ l, x.Fits

theorem SigAt.below {w w' : World} {a : Option Addr} {n : Nat} {l : List Sym} (h : SigAt w a n l) (hb : Below w.heap.size w w') : SigAt w' a n l :=
  ⟨h.len, h.small, fun i hi => by obtain ⟨b, off, ha, hc⟩ := h.cells i hi; exact ⟨b, off, ha, hc.below hb⟩, h.fits⟩

end Go.Proofs.YtppgmepmegelbaaGreatDoor
