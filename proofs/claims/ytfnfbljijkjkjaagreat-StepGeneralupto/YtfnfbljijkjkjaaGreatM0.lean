/- Texts laid together: Plain, Leaf, SName, SVar, RVar, SigMem, TMem, TBase, TOwn, TLent, Later, TKept, TSig, TRChk, TRChkB. -/
import Derived.Laws.RangeAny
import Derived.Test.YtfnfbljijkjkjaaGreatRows
import Derived.WalkKit
import Derived.WalkSpells
import Derived.WalkLawsBesides
import Derived.Deep.Trees
import Derived.Lib.Bytealg
import Derived.Lib.Small
import Derived.RangeFuncNested
import Derived.RangeFuncBound
import Derived.RangeFuncCalls
import Derived.RangeFuncLeaves
import Derived.Shelf.Abstract
import Derived.Shelf.RegionOpen
import Derived.OwnWalkIn
import Derived.TacticsInMore
import Derived.LoopNIn
import Derived.LoopIn
import Derived.Deep.AppendLies
import Derived.Deep.AppendSrc
import Derived.Laws.EntriesVeiled
import Derived.Deep.RegionLaw
import Derived.Deep.DeepCutAuto
import Derived.BigQuiet
/- The plain functions of layer 1 (names of symbols and of variables, over bytes), without any program. -/
namespace Go.Proofs.YtfnfbljijkjkjaaGreat

def lowZ (r : Int) : Bool := decide (97 ≤ r) && decide (r ≤ 122)
def upZ (r : Int) : Bool := decide (65 ≤ r) && decide (r ≤ 90)
def digZ (r : Int) : Bool := decide (48 ≤ r) && decide (r ≤ 57)
def fitsB (s : ByteArray) : Bool := decide (1 ≤ s.size) && decide (s.size ≤ 12)
/-- The byte at a place, 0 where there is none. -/
def bt (s : ByteArray) (j : Nat) : Int := if h : j < s.size then ((s[j]'h).toNat : Int) else 0
def okName (j : Nat) (c : Int) : Bool := lowZ c || (decide (1 ≤ j) && digZ c)
def okVar (j : Nat) (c : Int) : Bool := upZ c || (decide (1 ≤ j) && (lowZ c || digZ c))
def okNum (j : Nat) (c : Int) : Bool := (decide (j = 0) && decide (c = 95)) || (decide (j = 1) && digZ c && decide (c ≠ 48)) || (decide (2 ≤ j) && digZ c)
def allB (p : Nat → Int → Bool) (s : ByteArray) (n : Nat) : Bool := (List.range n).all fun j => p j (bt s j)
def nameB (s : ByteArray) : Bool := fitsB s && allB okName s s.size
def writtenB (s : ByteArray) : Bool := allB okVar s s.size
def numberedB (s : ByteArray) : Bool := decide (2 ≤ s.size) && allB okNum s s.size
def varB (s : ByteArray) : Bool := fitsB s && (writtenB s || numberedB s)

theorem bt_of {s : ByteArray} {j : Nat} (h : j < s.size) : bt s j = ((s[j]'h).toNat : Int) := by simp [bt, h]
theorem bt_range (s : ByteArray) (j : Nat) : 0 ≤ bt s j ∧ bt s j ≤ 255 := by
  unfold bt
  split
  · rename_i h; have := (s[j]'h).toNat_lt; omega
  · omega
theorem allB_succ (p : Nat → Int → Bool) (s : ByteArray) (n : Nat) : allB p s (n + 1) = (allB p s n && p n (bt s n)) := by
  simp [allB, List.range_succ]
theorem allB_zero (p : Nat → Int → Bool) (s : ByteArray) : allB p s 0 = true := by simp [allB]
theorem allB_iff (p : Nat → Int → Bool) (s : ByteArray) (n : Nat) : allB p s n = true ↔ ∀ j, j < n → p j (bt s j) = true := by
  simp [allB]
theorem allB_false {p : Nat → Int → Bool} {s : ByteArray} {n k : Nat} (hk : k < n) (h : p k (bt s k) = false) : allB p s n = false := by
  cases e : allB p s n with
  | false => rfl
  | true => rw [(allB_iff p s n).1 e k hk] at h; cases h

end Go.Proofs.YtfnfbljijkjkjaaGreat
/- What the smallest functions of layer 1 answer: letters, digits, lengths. -/
namespace Go.Proofs.YtfnfbljijkjkjaaGreat
open Go.RowKit

theorem rlow_any (r : Int) (w : World) : Calls Tryz.prog 63 #[.int .u8 r] w fun e w' => e = .returned (.bool (lowZ r)) ∧ w' = w := by
  by_cases h : 97 ≤ r
  · go_enter Tryz.func63, Tryz.ntmps63
    go_wp2
    go_ret
    exact ⟨by simp [lowZ, h], rfl⟩
  · go_enter Tryz.func63, Tryz.ntmps63
    go_wp2
    go_ret
    exact ⟨by simp [lowZ]; omega, rfl⟩

theorem rdigit_any (r : Int) (w : World) : Calls Tryz.prog 61 #[.int .u8 r] w fun e w' => e = .returned (.bool (digZ r)) ∧ w' = w := by
  by_cases h : 48 ≤ r
  · go_enter Tryz.func61, Tryz.ntmps61
    go_wp2
    go_ret
    exact ⟨by simp [digZ, h], rfl⟩
  · go_enter Tryz.func61, Tryz.ntmps61
    go_wp2
    go_ret
    exact ⟨by simp [digZ]; omega, rfl⟩

theorem rup_any (r : Int) (w : World) : Calls Tryz.prog 62 #[.int .u8 r] w fun e w' => e = .returned (.bool (upZ r)) ∧ w' = w := by
  by_cases h : 65 ≤ r
  · go_enter Tryz.func62, Tryz.ntmps62
    go_wp2
    go_ret
    exact ⟨by simp [upZ, h], rfl⟩
  · go_enter Tryz.func62, Tryz.ntmps62
    go_wp2
    go_ret
    exact ⟨by simp [upZ]; omega, rfl⟩

theorem fits_hi {s : ByteArray} (h : 1 ≤ (s.size : Int)) : fitsB s = decide ((s.size : Int) ≤ 12) := by
  rw [Bool.eq_iff_iff]; simp [fitsB]; omega
end Go.Proofs.YtfnfbljijkjkjaaGreat
/- What Name of package sig answers of any text: it goes through the runes. -/
namespace Go.Proofs.YtfnfbljijkjkjaaGreat
open Go.RowKit

theorem okName_high {j : Nat} {c : Int} (h : 128 ≤ c) : okName j c = false := by
  simp [okName, lowZ, digZ]; omega
theorem okVar_high {j : Nat} {c : Int} (h : 128 ≤ c) : okVar j c = false := by
  simp [okVar, lowZ, digZ, upZ]; omega
theorem lowZ_high {c : Int} (h : 128 ≤ c) : lowZ c = false := by simp [lowZ]; omega
theorem upZ_high {c : Int} (h : 128 ≤ c) : upZ c = false := by simp [upZ]; omega
theorem digZ_high {c : Int} (h : 128 ≤ c) : digZ c = false := by simp [digZ]; omega
theorem below_iter (w : World) (s : ByteArray) (p : Nat) : Below w.heap.size w (w.iter s p) := (Below.refl _ _).alloc (Nat.le_refl _) _

end Go.Proofs.YtfnfbljijkjkjaaGreat
/- What Var of package sig answers of any text: it goes through the runes. -/
namespace Go.Proofs.YtfnfbljijkjkjaaGreat
open Go.RowKit

theorem ext_size (s : ByteArray) : (s.extract 1 s.size).size = s.size - 1 := by simp
theorem ext_at (s : ByteArray) (j : Nat) (h : j < (s.extract 1 s.size).size) (h' : j + 1 < s.size) : (s.extract 1 s.size)[j]'h = s[j + 1]'h' := by
  rw [ByteArray.getElem_extract]; congr 1; omega
theorem numbered_no {s : ByteArray} (k : Nat) (hk : k < s.size) (h : okNum k ((s[k]'hk).toNat : Int) = false) : numberedB s = false := by
  unfold numberedB; rw [allB_false hk (by rw [bt_of hk]; exact h)]; simp
theorem okNum_high {j : Nat} {c : Int} (h : 128 ≤ c) : okNum j c = false := by
  simp [okNum, digZ]; omega

end Go.Proofs.YtfnfbljijkjkjaaGreat
/- What the document's Var answers of any text. -/
namespace Go.Proofs.YtfnfbljijkjkjaaGreat
open Go.RowKit

theorem var_num {s : ByteArray} (hf : fitsB s = true) (hp : 0 < s.size) (h : ((s[0]'hp).toNat : Int) = 95) : varB s = numberedB s := by
  unfold varB writtenB
  rw [hf, allB_false hp (by rw [bt_of hp, h]; rfl)]; simp
theorem var_writ {s : ByteArray} (hf : fitsB s = true) (hp : 0 < s.size) (h : ((s[0]'hp).toNat : Int) ≠ 95) : varB s = writtenB s := by
  unfold varB
  rw [hf, numbered_no 0 hp (by simp [okNum, h])]; simp
theorem okNum_two {j : Nat} {c : Int} (h : 2 ≤ j) : okNum j c = digZ c := by
  have h0 : ¬ j = 0 := by omega
  have h1 : ¬ j = 1 := by omega
  simp [okNum, h, h0, h1]

set_option maxHeartbeats 800000 in
theorem rvar_any (s : ByteArray) (w : World) (hs : s.size ≤ maxLen) : Calls Tryz.prog 38 #[.string s] w fun e w' => e = .returned (.bool (varB s)) ∧ w' = w := by
  unfold maxLen at hs
  by_cases h0 : (s.size : Int) < 1
  · go_enter Tryz.func38, Tryz.ntmps38
    go_wp2
    go_ret
    exact ⟨by simp [varB, fitsB]; omega, rfl⟩
  · by_cases h1 : 12 < (s.size : Int)
    · go_enter Tryz.func38, Tryz.ntmps38
      go_wp2
      go_ret
      exact ⟨by simp [varB, fitsB]; omega, rfl⟩
    · have hp : 0 < s.size := by omega
      have hfit : Hid (fitsB s = true) := by show fitsB s = true; simp [fitsB]; omega
      cases hu : (((s[0]'hp).toNat : Int) == 95)
      · have hu' : Hid (((s[0]'hp).toNat : Int) ≠ 95) := by show _ ≠ _; simpa using hu
        have hv : Hid (varB s = writtenB s) := var_writ hfit.out hp hu'.out
        cases hl : upZ ((s[0]'hp).toNat : Int)
        · have hbad : Hid (varB s = false) := by
            show varB s = false
            rw [hv.out]; unfold writtenB
            rw [allB_false hp (by rw [bt_of hp]; simp [okVar, hl])]
          go_enter Tryz.func38, Tryz.ntmps38
          go_wp2_with (go_at_call 62; refine (rup_any _ _).mono ?_; rintro e w' ⟨rfl, rfl⟩)
          go_ret
          exact ⟨by rw [hbad.out]; rfl, rfl⟩
        · have h01 : Hid (allB okVar s 1 = true) := by
            show allB okVar s 1 = true
            rw [allB_succ, allB_zero, bt_of hp]; simp [okVar, hl]
          go_enter Tryz.func38, Tryz.ntmps38
          go_wp2_with (go_at_call 62; refine (rup_any _ _).mono ?_; rintro e w' ⟨rfl, rfl⟩)
          go_loop [4] (fun i => ∃ k : Nat, 1 ≤ k ∧ k ≤ s.size ∧ i = .int .i64 k ∧ allB okVar s k = true) (fun i => s.size - (intOf i).toNat)
          case atStart => exact ⟨1, Nat.le_refl _, hp, rfl, h01.out⟩
          case round =>
            obtain ⟨k, hk1, hk, rfl, hall⟩ := hrel
            have HA : Hid (allB okVar s k = true) := hall
            clear hall
            by_cases hlt : k < s.size
            · have hst : Hid (∀ b, okVar k ((s[k]'hlt).toNat : Int) = b → allB okVar s (k + 1) = b) := by
                intro b hb; rw [allB_succ, HA.out, bt_of hlt, hb]; rfl
              have hbad : Hid (okVar k ((s[k]'hlt).toNat : Int) = false → varB s = false) := by
                intro hb; rw [hv.out]; unfold writtenB; rw [allB_false hlt (by rw [bt_of hlt]; exact hb)]
              cases hlk : lowZ ((s[k]'hlt).toNat : Int)
              · cases huk : upZ ((s[k]'hlt).toNat : Int)
                · cases hdk : digZ ((s[k]'hlt).toNat : Int)
                  · go_wp2_with (first | (go_at_call 63; refine (rlow_any _ _).mono ?_; rintro e w' ⟨rfl, rfl⟩) | (go_at_call 61; refine (rdigit_any _ _).mono ?_; rintro e w' ⟨rfl, rfl⟩) | (go_at_call 62; refine (rup_any _ _).mono ?_; rintro e w' ⟨rfl, rfl⟩))
                    go_ret
                    exact ⟨by rw [hbad.out (by simp [okVar, hlk, hdk, huk])]; rfl, rfl⟩
                  · go_wp2_with (first | (go_at_call 63; refine (rlow_any _ _).mono ?_; rintro e w' ⟨rfl, rfl⟩) | (go_at_call 61; refine (rdigit_any _ _).mono ?_; rintro e w' ⟨rfl, rfl⟩) | (go_at_call 62; refine (rup_any _ _).mono ?_; rintro e w' ⟨rfl, rfl⟩))
                    go_round
                    case rel => exact ⟨k + 1, by omega, by omega, by go_num, hst.out _ (by simp [okVar, hdk]; omega)⟩
                    case measure => simp [intOf]; omega
                · go_wp2_with (first | (go_at_call 63; refine (rlow_any _ _).mono ?_; rintro e w' ⟨rfl, rfl⟩) | (go_at_call 61; refine (rdigit_any _ _).mono ?_; rintro e w' ⟨rfl, rfl⟩) | (go_at_call 62; refine (rup_any _ _).mono ?_; rintro e w' ⟨rfl, rfl⟩))
                  go_round
                  case rel => exact ⟨k + 1, by omega, by omega, by go_num, hst.out _ (by simp [okVar, huk])⟩
                  case measure => simp [intOf]; omega
              · go_wp2_with (first | (go_at_call 63; refine (rlow_any _ _).mono ?_; rintro e w' ⟨rfl, rfl⟩) | (go_at_call 61; refine (rdigit_any _ _).mono ?_; rintro e w' ⟨rfl, rfl⟩) | (go_at_call 62; refine (rup_any _ _).mono ?_; rintro e w' ⟨rfl, rfl⟩))
                go_round
                case rel => exact ⟨k + 1, by omega, by omega, by go_num, hst.out _ (by simp [okVar, hlk]; omega)⟩
                case measure => simp [intOf]; omega
            · have hgood : Hid (varB s = true) := by
                have hke : s.size = k := by omega
                show varB s = true; rw [hv.out]; unfold writtenB; rw [hke, HA.out]
              go_wp2
              go_ret
              exact ⟨by rw [hgood.out]; rfl, rfl⟩
      · have hu' : Hid (((s[0]'hp).toNat : Int) = 95) := by show _ = _; simpa using hu
        have hv : Hid (varB s = numberedB s) := var_num hfit.out hp hu'.out
        by_cases h2 : (s.size : Int) < 2
        · have hbad : Hid (varB s = false) := by show varB s = false; rw [hv.out]; simp [numberedB]; omega
          go_enter Tryz.func38, Tryz.ntmps38
          go_wp2
          go_ret
          exact ⟨by rw [hbad.out]; rfl, rfl⟩
        · have hp1 : 1 < s.size := by omega
          cases hz : (((s[1]'hp1).toNat : Int) == 48)
          · have hz' : Hid (((s[1]'hp1).toNat : Int) ≠ 48) := by show _ ≠ _; simpa using hz
            have h01 : Hid (allB okNum s 1 = true) := by
              show allB okNum s 1 = true
              rw [allB_succ, allB_zero, bt_of hp, hu'.out]; rfl
            go_enter Tryz.func38, Tryz.ntmps38
            go_wp2
            go_loop [3] (fun i => ∃ k : Nat, 1 ≤ k ∧ k ≤ s.size ∧ i = .int .i64 k ∧ allB okNum s k = true) (fun i => s.size - (intOf i).toNat)
            case atStart => exact ⟨1, Nat.le_refl _, hp, rfl, h01.out⟩
            case round =>
              obtain ⟨k, hk1, hk, rfl, hall⟩ := hrel
              have HA : Hid (allB okNum s k = true) := hall
              clear hall
              by_cases hlt : k < s.size
              · have hst : Hid (okNum k ((s[k]'hlt).toNat : Int) = true → allB okNum s (k + 1) = true) := by
                  intro hb; rw [allB_succ, HA.out, bt_of hlt, hb]; rfl
                have hbad : Hid (okNum k ((s[k]'hlt).toNat : Int) = false → varB s = false) := by
                  intro hb; rw [hv.out]; exact numbered_no k hlt hb
                cases hdk : digZ ((s[k]'hlt).toNat : Int)
                · go_wp2_with (go_at_call 61; refine (rdigit_any _ _).mono ?_; rintro e w' ⟨rfl, rfl⟩)
                  go_ret
                  exact ⟨by rw [hbad.out (by simp [okNum, hdk]; omega)]; rfl, rfl⟩
                · have hok : Hid (okNum k ((s[k]'hlt).toNat : Int) = true) := by
                    show okNum _ _ = true
                    by_cases hz1 : k = 1
                    · subst hz1; have := hz'.out; simp [okNum, hdk]; omega
                    · rw [okNum_two (by omega)]; exact hdk
                  go_wp2_with (go_at_call 61; refine (rdigit_any _ _).mono ?_; rintro e w' ⟨rfl, rfl⟩)
                  go_round
                  case rel => exact ⟨k + 1, by omega, by omega, by go_num, hst.out hok.out⟩
                  case measure => simp [intOf]; omega
              · have hgood : Hid (varB s = true) := by
                  have hke : s.size = k := by omega
                  show varB s = true; rw [hv.out]; unfold numberedB; rw [hke, HA.out]; simp; omega
                go_wp2
                go_ret
                exact ⟨by rw [hgood.out]; rfl, rfl⟩
          · have hbad : Hid (varB s = false) := by
              show varB s = false; rw [hv.out]
              have : ((s[1]'hp1).toNat : Int) = 48 := by simpa using hz
              exact numbered_no 1 hp1 (by rw [this]; rfl)
            go_enter Tryz.func38, Tryz.ntmps38
            go_wp2
            go_ret
            exact ⟨by rw [hbad.out]; rfl, rfl⟩
end Go.Proofs.YtfnfbljijkjkjaaGreat
/- Signatures as plain lists: what is found, what is right; and where they lie in memory. -/
namespace Go.Proofs.YtfnfbljijkjkjaaGreat
open Go.RowKit

structure Sym where
  name : ByteArray
  kind : Int
  arity : Int
  unit : ByteArray

def Sym.val (x : Sym) : Value := .agg #[.string x.name, .int .i64 x.kind, .int .i64 x.arity, .string x.unit]

/-! ### plain -/
def sameB (a b : ByteArray) : Bool := a.toList == b.toList
def findL (l : List Sym) (nm : ByteArray) : Option Nat := l.findIdx? fun x => sameB x.name nm
def findI (l : List Sym) (nm : ByteArray) : Int := match findL l nm with | some i => i | none => 0
def findB (l : List Sym) (nm : ByteArray) : Bool := (findL l nm).isSome

theorem find_hit {l : List Sym} {nm : ByteArray} {k : Nat} (hk : k < l.length) (h : sameB l[k].name nm = true) (hno : ∀ j (hj : j < l.length), j < k → sameB l[j].name nm = false) : findL l nm = some k := by
  unfold findL
  rw [List.findIdx?_eq_some_iff_getElem]
  exact ⟨hk, h, fun j hj => by rw [hno j (by omega) hj]; simp⟩
theorem find_miss {l : List Sym} {nm : ByteArray} (hno : ∀ j (hj : j < l.length), sameB l[j].name nm = false) : findL l nm = none := by
  unfold findL
  rw [List.findIdx?_eq_none_iff]
  intro x hx
  obtain ⟨j, hj, rfl⟩ := List.getElem_of_mem hx
  exact hno j hj
theorem findI_some {l : List Sym} {nm : ByteArray} {k : Nat} (h : findL l nm = some k) : findI l nm = k := by simp [findI, h]
theorem findB_some {l : List Sym} {nm : ByteArray} {k : Nat} (h : findL l nm = some k) : findB l nm = true := by simp [findB, h]
theorem findI_none {l : List Sym} {nm : ByteArray} (h : findL l nm = none) : findI l nm = 0 := by simp [findI, h]
theorem findB_none {l : List Sym} {nm : ByteArray} (h : findL l nm = none) : findB l nm = false := by simp [findB, h]

def arityB (x : Sym) : Bool := if x.kind = 1 then decide (0 ≤ x.arity) && decide (x.arity ≤ 4) else decide (x.arity = 2)
def emptyB (s : ByteArray) : Bool := s.toList.isEmpty
def isUnit (x y : Sym) : Bool := decide (y.kind = 1) && decide (y.arity = 0) && sameB y.name x.unit
def unitB (l : List Sym) (x : Sym) : Bool := if x.kind = 3 then l.any (isUnit x) else emptyB x.unit
def kindB (x : Sym) : Bool := decide (x.kind = 1) || decide (x.kind = 2) || decide (x.kind = 3)
/-- What is wrong with a symbol behind others. -/
def symErr (l : List Sym) (x : Sym) : Int :=
  if findB l x.name = true ∨ nameB x.name = false then 11 else if kindB x = false then 12 else if arityB x = false then 13 else if unitB l x = false then 14 else 0

/-! ### memory -/
structure SymAt (w : World) (b o : Nat) (x : Sym) : Prop where
  name : w.cell? ⟨b, o, none⟩ = some (.string x.name)
  kind : w.cell? ⟨b, o + 1, none⟩ = some (.int .i64 x.kind)
  arity : w.cell? ⟨b, o + 2, none⟩ = some (.int .i64 x.arity)
  unit : w.cell? ⟨b, o + 3, none⟩ = some (.string x.unit)

theorem SymAt.below {w w' : World} {b o : Nat} {x : Sym} (h : SymAt w b o x) (hb : Below w.heap.size w w') : SymAt w' b o x := by
  have hlt : b < w.heap.size := World.block_lt_of_cell? w _ h.name
  exact ⟨by rw [hb.cell (p := ⟨b, o, none⟩) hlt]; exact h.name, by rw [hb.cell (p := ⟨b, o + 1, none⟩) hlt]; exact h.kind,
    by rw [hb.cell (p := ⟨b, o + 2, none⟩) hlt]; exact h.arity, by rw [hb.cell (p := ⟨b, o + 3, none⟩) hlt]; exact h.unit⟩

/-- Each text is short enough to be one. -/
structure Sym.Fits (x : Sym) : Prop where
  name : x.name.size ≤ maxLen
  unit : x.unit.size ≤ maxLen

/-- The slice with this address and length holds these symbols. -/
structure SigAt (w : World) (a : Option Addr) (n : Nat) (l : List Sym) : Prop where
  len : n = l.length
  small : n ≤ maxLen
  cells : ∀ i (h : i < l.length), ∃ b off, a = some ⟨b, off, none⟩ ∧ SymAt w b (off + i * 4) l[i]
  fits : ∀ x ∈ l, x.Fits

theorem SigAt.below {w w' : World} {a : Option Addr} {n : Nat} {l : List Sym} (h : SigAt w a n l) (hb : Below w.heap.size w w') : SigAt w' a n l :=
  ⟨h.len, h.small, fun i hi => by obtain ⟨b, off, ha, hc⟩ := h.cells i hi; exact ⟨b, off, ha, hc.below hb⟩, h.fits⟩

end Go.Proofs.YtfnfbljijkjkjaaGreat
/- Terms as forests: how many nodes, where they lie in memory, and their order, without any program. -/
namespace Go.Proofs.YtfnfbljijkjkjaaGreat
open Go.RowKit Go.Deep

/-- A list of terms: the first one's name and symbol, its arguments on the left, the terms behind it on the right. -/
abbrev Fo := BT (ByteArray × Int)
def lenF : Fo → Nat
  | .nil => 0
  | .node _ _ _ _ r => lenF r + 1
def nodesF : Fo → Nat
  | .nil => 0
  | .node _ _ _ l r => nodesF l + nodesF r + 1
def dropF : Nat → Fo → Fo
  | 0, F => F
  | _ + 1, .nil => .nil
  | n + 1, .node _ _ _ _ r => dropF n r

theorem len_nodes : ∀ F : Fo, lenF F ≤ nodesF F
  | .nil => Nat.le_refl _
  | .node _ _ _ l r => by have := len_nodes r; simp only [lenF, nodesF]; omega
theorem len_nil {F : Fo} (h : lenF F = 0) : F = .nil := by
  cases F with
  | nil => rfl
  | node => simp [lenF] at h
theorem drop_zero (F : Fo) : dropF 0 F = F := by cases F <;> rfl
theorem len_drop : ∀ (i : Nat) (F : Fo), lenF (dropF i F) = lenF F - i
  | 0, F => by rw [drop_zero]; rfl
  | i + 1, .nil => by simp [dropF, lenF]
  | i + 1, .node _ _ _ _ r => by simp only [dropF, lenF]; rw [len_drop i r]; omega
theorem drop_end (F : Fo) : dropF (lenF F) F = .nil := len_nil (by rw [len_drop]; omega)
theorem nodes_drop : ∀ (i : Nat) (F : Fo), nodesF (dropF i F) ≤ nodesF F
  | 0, F => by rw [drop_zero]; exact Nat.le_refl _
  | i + 1, .nil => by simp [dropF]
  | i + 1, .node _ _ _ l r => by have := nodes_drop i r; simp only [dropF, nodesF]; omega
theorem drop_succ : ∀ (i : Nat) (F : Fo) {b o : Nat} {x : ByteArray × Int} {l r : Fo}, dropF i F = .node b o x l r → dropF (i + 1) F = r
  | 0, F, b, o, x, l, r, h => by rw [drop_zero] at h; subst h; simp only [dropF]
  | _ + 1, .nil, _, _, _, _, _, h => by simp [dropF] at h
  | i + 1, .node _ _ _ _ r', b, o, x, l, r, h => by simp only [dropF] at h ⊢; exact drop_succ i r' h
theorem drop_node (i : Nat) (F : Fo) (h : i < lenF F) : ∃ b o x l r, dropF i F = .node b o x l r := by
  have e := len_drop i F
  cases hd : dropF i F with
  | nil => rw [hd] at e; simp [lenF] at e; omega
  | node b o x l r => exact ⟨b, o, x, l, r, rfl⟩

/-! ### memory -/
/-- How long a name, a list and its room may be. -/
structure Sizes (nm : ByteArray) (n c : Nat) : Prop where
  name : nm.size ≤ maxLen
  len : n ≤ c
  cap : c ≤ maxLen
  few : n * 48 ≤ 140737488351232
/-- From this cell on these terms lie, three cells each. -/
def KidsAt (w : World) : Fo → Nat → Nat → Prop
  | .nil, _, _ => True
  | .node _ _ x l r, b, o => (∃ a c, w.cell? ⟨b, o, none⟩ = some (.string x.1) ∧ w.cell? ⟨b, o + 1, none⟩ = some (.int .i64 x.2) ∧ w.cell? ⟨b, o + 2, none⟩ = some (.slice a (lenF l) c) ∧
      Sizes x.1 (lenF l) c ∧ (l = .nil ∨ ∃ b' o', a = some ⟨b', o', none⟩ ∧ KidsAt w l b' o')) ∧ KidsAt w r b (o + 3)
/-- The slice with this address holds these terms. -/
def ArgsAt (w : World) (a : Option Addr) (F : Fo) : Prop := F = .nil ∨ ∃ b o, a = some ⟨b, o, none⟩ ∧ KidsAt w F b o
/-- A term whose arguments lie in the slice with this address and room. -/
structure TmAt (w : World) (x : ByteArray × Int) (a : Option Addr) (c : Nat) (l : Fo) : Prop where
  sizes : Sizes x.1 (lenF l) c
  args : ArgsAt w a l

theorem KidsAt.kept {w w' : World} (h : ∀ p v, w.cell? p = some v → w'.cell? p = some v) : ∀ {F : Fo} {b o : Nat}, KidsAt w F b o → KidsAt w' F b o
  | .nil, _, _, _ => trivial
  | .node _ _ _ l r, b, o, ⟨⟨a, c, h0, h1, h2, hc, hl⟩, hr⟩ => ⟨⟨a, c, h _ _ h0, h _ _ h1, h _ _ h2, hc, by
      rcases hl with hl | ⟨b', o', ha, hk⟩
      · exact .inl hl
      · exact .inr ⟨b', o', ha, KidsAt.kept h hk⟩⟩, KidsAt.kept h hr⟩
theorem below_cell {w w' : World} (hb : Below w.heap.size w w') : ∀ p v, w.cell? p = some v → w'.cell? p = some v := fun p v h => by
  rw [hb.cell (World.block_lt_of_cell? w p h)]; exact h
theorem KidsAt.below {w w' : World} {F : Fo} {b o : Nat} (h : KidsAt w F b o) (hb : Below w.heap.size w w') : KidsAt w' F b o := h.kept (below_cell hb)
theorem ArgsAt.kept {w w' : World} {a : Option Addr} {F : Fo} (hk : ArgsAt w a F) (h : ∀ p v, w.cell? p = some v → w'.cell? p = some v) : ArgsAt w' a F := by
  rcases hk with h1 | ⟨b, o, ha, hk⟩
  · exact .inl h1
  · exact .inr ⟨b, o, ha, hk.kept h⟩
theorem ArgsAt.below {w w' : World} {a : Option Addr} {F : Fo} (hk : ArgsAt w a F) (hb : Below w.heap.size w w') : ArgsAt w' a F := hk.kept (below_cell hb)
theorem TmAt.kept {w w' : World} {x : ByteArray × Int} {a : Option Addr} {c : Nat} {l : Fo} (h : TmAt w x a c l) (hk : ∀ p v, w.cell? p = some v → w'.cell? p = some v) : TmAt w' x a c l := ⟨h.sizes, h.args.kept hk⟩
theorem TmAt.below {w w' : World} {x : ByteArray × Int} {a : Option Addr} {c : Nat} {l : Fo} (h : TmAt w x a c l) (hb : Below w.heap.size w w') : TmAt w' x a c l := ⟨h.sizes, h.args.below hb⟩
theorem KidsAt.drop {w : World} : ∀ (i : Nat) {F : Fo} {b o : Nat}, KidsAt w F b o → KidsAt w (dropF i F) b (o + i * 3)
  | 0, F, b, o, h => by rw [drop_zero]; simpa using h
  | i + 1, .nil, b, o, _ => by simp [dropF, KidsAt]
  | i + 1, .node _ _ _ _ r, b, o, ⟨_, hr⟩ => by
    have := KidsAt.drop i hr
    rw [show o + 3 + i * 3 = o + (i + 1) * 3 by omega] at this
    exact this
theorem ArgsAt.nil (w : World) (a : Option Addr) : ArgsAt w a .nil := .inl rfl
theorem ArgsAt.get {w : World} {a : Option Addr} {F : Fo} (h : ArgsAt w a F) (hn : 0 < lenF F) : ∃ b o, a = some ⟨b, o, none⟩ ∧ KidsAt w F b o := by
  rcases h with h1 | h2
  · subst h1; simp [lenF] at hn
  · exact h2
/-- The term at a place of a list. -/
structure Kid (w : World) (F : Fo) (b o k : Nat) (x : ByteArray × Int) (a : Option Addr) (c : Nat) (l : Fo) : Prop where
  name : w.cell? ⟨b, o + k * 3, none⟩ = some (.string x.1)
  sym : w.cell? ⟨b, o + k * 3 + 1, none⟩ = some (.int .i64 x.2)
  list : w.cell? ⟨b, o + k * 3 + 2, none⟩ = some (.slice a (lenF l) c)
  at_ : TmAt w x a c l
  split : ∃ B O, dropF k F = .node B O x l (dropF (k + 1) F)
  less : nodesF l < nodesF F
theorem KidsAt.kid {w : World} {F : Fo} {b o k : Nat} (h : KidsAt w F b o) (hk : k < lenF F) : ∃ x a c l, Kid w F b o k x a c l := by
  obtain ⟨B, O, x, l, r, hd⟩ := drop_node k F hk
  have h1 := h.drop k
  have h2 := nodes_drop k F
  rw [hd] at h1 h2
  obtain ⟨⟨a, c, h3, h4, h5, h6, h7⟩, _⟩ := h1
  exact ⟨x, a, c, l, h3, h4, h5, ⟨h6, h7⟩, ⟨B, O, by rw [drop_succ k F hd]; exact hd⟩, by simp only [nodesF] at h2; omega⟩
theorem Kid.below {w w' : World} {F : Fo} {b o k : Nat} {x : ByteArray × Int} {a : Option Addr} {c : Nat} {l : Fo} (h : Kid w F b o k x a c l) (hb : Below w.heap.size w w') : Kid w' F b o k x a c l :=
  ⟨below_cell hb _ _ h.name, below_cell hb _ _ h.sym, below_cell hb _ _ h.list, h.at_.below hb, h.split, h.less⟩

/-! ### the order -/
def thenC (x y : Int) : Int := if x = 0 then y else x
def cmpS (a b : ByteArray) : Int := Lib.compareBytes a.data.toList b.data.toList
def noName (s : ByteArray) : Bool := s.toList.isEmpty
/-- Two nodes, whose arguments compare so. -/
def cmp1 (x y : ByteArray × Int) (n m : Nat) (deep : Int) : Int :=
  if noName x.1 = false then (if noName y.1 = false then cmpS x.1 y.1 else -1)
  else if noName y.1 = false then 1 else if x.2 = y.2 then (if n = m then deep else Lib.compareInt n m) else Lib.compareInt x.2 y.2
def cmpF : Fo → Fo → Int
  | .nil, _ => 0
  | .node _ _ _ _ _, .nil => 0
  | .node _ _ x l r, .node _ _ y m s => thenC (cmp1 x y (lenF l) (lenF m) (cmpF l m)) (cmpF r s)

/-- What a total order says of three. -/
structure Cons (ab bc ac : Int) : Prop where
  l : ab = 0 → ac = bc
  r : bc = 0 → ac = ab
  lt : ab < 0 → bc < 0 → ac < 0
  gt : 0 < ab → 0 < bc → 0 < ac
theorem Cons.zero : Cons 0 0 0 := ⟨fun _ => rfl, fun _ => rfl, fun h => by omega, fun h => by omega⟩
theorem Cons.then {x1 x2 x3 y1 y2 y3 : Int} (h : Cons x1 x2 x3) (k : x1 = 0 → x2 = 0 → Cons y1 y2 y3) : Cons (thenC x1 y1) (thenC x2 y2) (thenC x3 y3) := by
  obtain ⟨h1, h2, h3, h4⟩ := h
  unfold thenC
  by_cases e1 : x1 = 0
  · have e3 := h1 e1
    subst e1 e3
    by_cases e2 : x3 = 0
    · subst e2
      simpa using k rfl rfl
    · simp only [e2, if_true, if_false]
      constructor <;> omega
  · by_cases e2 : x2 = 0
    · have e3 := h2 e2
      subst e2 e3
      simp only [e1, if_true, if_false]
      constructor <;> omega
    · simp only [e1, e2, if_false]
      constructor
      · omega
      · omega
      · intro a b
        have := h3 a b
        rw [if_neg (by omega)]; exact this
      · intro a b
        have := h4 a b
        rw [if_neg (by omega)]; exact this
theorem compareInt_cons (x y z : Int) : Cons (Lib.compareInt x y) (Lib.compareInt y z) (Lib.compareInt x z) := by
  unfold Lib.compareInt
  constructor <;> (repeat' split) <;> omega
theorem compareInt_anti (x y : Int) : Lib.compareInt y x = - Lib.compareInt x y := by
  unfold Lib.compareInt
  (repeat' split) <;> omega
theorem compareInt_zero {x y : Int} (h : Lib.compareInt x y = 0) : x = y := by
  unfold Lib.compareInt at h
  split at h
  · omega
  · split at h
    · omega
    · omega
theorem bytes_cons : ∀ a b c : List UInt8, Cons (Lib.compareBytes a b) (Lib.compareBytes b c) (Lib.compareBytes a c)
  | [], [], [] => Cons.zero
  | [], [], _ :: _ => ⟨fun _ => rfl, fun h => by simp [Lib.compareBytes] at h, fun h => by simp [Lib.compareBytes] at h, fun h => by simp [Lib.compareBytes] at h⟩
  | [], _ :: _, [] => ⟨fun h => by simp [Lib.compareBytes] at h, fun h => by simp [Lib.compareBytes] at h, fun _ h => by simp [Lib.compareBytes] at h, fun h => by simp [Lib.compareBytes] at h⟩
  | [], _ :: _, _ :: _ => ⟨fun h => by simp [Lib.compareBytes] at h, fun h => rfl, fun _ _ => by simp [Lib.compareBytes], fun h => by simp [Lib.compareBytes] at h⟩
  | _ :: _, [], [] => ⟨fun h => by simp [Lib.compareBytes] at h, fun h => rfl, fun h => by simp [Lib.compareBytes] at h, fun _ h => by simp [Lib.compareBytes] at h⟩
  | _ :: _, [], _ :: _ => ⟨fun h => by simp [Lib.compareBytes] at h, fun h => by simp [Lib.compareBytes] at h, fun h => by simp [Lib.compareBytes] at h, fun _ h => by simp [Lib.compareBytes] at h⟩
  | _ :: _, _ :: _, [] => ⟨fun _ => rfl, fun h => by simp [Lib.compareBytes] at h, fun _ h => by simp [Lib.compareBytes] at h, fun _ _ => by simp [Lib.compareBytes]⟩
  | a :: as1, b :: bs, c :: cs => by
    have ih := bytes_cons as1 bs cs
    have e : ∀ (a b : UInt8) (as1 bs : List UInt8), Lib.compareBytes (a :: as1) (b :: bs) = thenC (Lib.compareInt a.toNat b.toNat) (Lib.compareBytes as1 bs) := by
      intro a b as1 bs
      unfold thenC Lib.compareInt
      rw [Lib.compareBytes]
      have h1 : a < b ↔ a.toNat < b.toNat := UInt8.lt_iff_toNat_lt
      have h2 : b < a ↔ b.toNat < a.toNat := UInt8.lt_iff_toNat_lt
      by_cases k1 : a < b
      · have := h1.1 k1
        rw [if_pos k1, if_pos (by omega : (a.toNat : Int) < (b.toNat : Int))]; rfl
      · by_cases k2 : b < a
        · have := h2.1 k2
          rw [if_neg k1, if_pos k2, if_neg (by omega : ¬ (a.toNat : Int) < (b.toNat : Int)), if_pos (by omega : (a.toNat : Int) > (b.toNat : Int))]; rfl
        · have := mt h1.2 k1
          have := mt h2.2 k2
          rw [if_neg k1, if_neg k2, if_neg (by omega : ¬ (a.toNat : Int) < (b.toNat : Int)), if_neg (by omega : ¬ (a.toNat : Int) > (b.toNat : Int))]; rfl
    rw [e, e, e]
    exact (compareInt_cons _ _ _).then (fun _ _ => ih)
theorem bytes_anti : ∀ a b : List UInt8, Lib.compareBytes b a = - Lib.compareBytes a b
  | [], [] => rfl
  | [], _ :: _ => rfl
  | _ :: _, [] => rfl
  | a :: as1, b :: bs => by
    have ih := bytes_anti as1 bs
    rw [Lib.compareBytes, Lib.compareBytes]
    by_cases k1 : a < b
    · have h1 : a.toNat < b.toNat := UInt8.lt_iff_toNat_lt.1 k1
      have h2 : ¬ b < a := fun h => by have := UInt8.lt_iff_toNat_lt.1 h; omega
      rw [if_pos k1, if_neg h2, if_pos k1]; rfl
    · by_cases k2 : b < a
      · rw [if_pos k2, if_neg k1, if_pos k2]
      · rw [if_neg k2, if_neg k1, if_neg k1, if_neg k2, ih]
theorem bytes_zero : ∀ {a b : List UInt8}, Lib.compareBytes a b = 0 → a = b
  | [], [], _ => rfl
  | [], _ :: _, h => by simp [Lib.compareBytes] at h
  | _ :: _, [], h => by simp [Lib.compareBytes] at h
  | a :: as1, b :: bs, h => by
    rw [Lib.compareBytes] at h
    split at h
    · omega
    · rename_i k1
      split at h
      · omega
      · rename_i k2
        have h1 : ¬ a.toNat < b.toNat := fun h => k1 (UInt8.lt_iff_toNat_lt.2 h)
        have h2 : ¬ b.toNat < a.toNat := fun h => k2 (UInt8.lt_iff_toNat_lt.2 h)
        have : a = b := UInt8.toNat_inj.1 (by omega)
        rw [this, bytes_zero h]
theorem bytes_refl (a : List UInt8) : Lib.compareBytes a a = 0 := by
  have := bytes_anti a a
  omega

theorem cmp1_anti (x y : ByteArray × Int) (n m : Nat) (d : Int) : cmp1 y x m n (-d) = - cmp1 x y n m d := by
  unfold cmp1 cmpS
  rw [bytes_anti, compareInt_anti x.2 y.2, compareInt_anti (n : Int) (m : Int)]
  cases hx : noName x.1 <;> cases hy : noName y.1 <;> simp
  by_cases e : x.2 = y.2
  · rw [if_pos e, if_pos e.symm]
    by_cases e2 : n = m
    · rw [if_pos e2, if_pos e2.symm]
    · rw [if_neg e2, if_neg (Ne.symm e2)]
  · rw [if_neg e, if_neg (Ne.symm e)]
theorem cmpF_anti : ∀ F G : Fo, cmpF G F = - cmpF F G
  | .nil, .nil => rfl
  | .nil, .node _ _ _ _ _ => rfl
  | .node _ _ _ _ _, .nil => rfl
  | .node _ _ x l r, .node _ _ y m s => by
    rw [cmpF, cmpF, cmpF_anti l m, cmpF_anti r s, cmp1_anti]
    unfold thenC
    by_cases e : cmp1 x y (lenF l) (lenF m) (cmpF l m) = 0
    · rw [if_pos e, if_pos (by omega)]
    · rw [if_neg e, if_neg (by omega)]
theorem cmp1_cons (x y z : ByteArray × Int) (n m k : Nat) (d1 d2 d3 : Int) (h : n = m → m = k → Cons d1 d2 d3) : Cons (cmp1 x y n m d1) (cmp1 y z m k d2) (cmp1 x z n k d3) := by
  have hI := compareInt_cons x.2 y.2 z.2
  have hN := compareInt_cons (n : Int) m k
  have e : ∀ (x y : ByteArray × Int) (n m : Nat) (d : Int), noName x.1 = true → noName y.1 = true → cmp1 x y n m d = thenC (Lib.compareInt x.2 y.2) (thenC (Lib.compareInt n m) d) := by
    intro x y n m d hx hy
    unfold cmp1 thenC
    rw [if_neg (by simp [hx]), if_neg (by simp [hy])]
    by_cases e : x.2 = y.2
    · have e0 : Lib.compareInt x.2 y.2 = 0 := by unfold Lib.compareInt; rw [if_neg (by omega), if_neg (by omega)]
      rw [if_pos e, if_pos e0]
      by_cases e2 : n = m
      · have e1 : Lib.compareInt (n : Int) m = 0 := by unfold Lib.compareInt; rw [if_neg (by omega), if_neg (by omega)]
        rw [if_pos e2, if_pos e1]
      · have e1 : Lib.compareInt (n : Int) m ≠ 0 := fun h => e2 (by have := compareInt_zero h; omega)
        rw [if_neg e2, if_neg e1]
    · have e0 : Lib.compareInt x.2 y.2 ≠ 0 := fun h => e (compareInt_zero h)
      rw [if_neg e, if_neg e0]
  cases hx : noName x.1 <;> cases hy : noName y.1 <;> cases hz : noName z.1
  · simp only [cmp1, hx, hy, hz, if_true]; exact bytes_cons _ _ _
  · simp [cmp1, hx, hy, hz]; constructor <;> omega
  · simp [cmp1, hx, hy, hz]; constructor <;> omega
  · simp [cmp1, hx, hy, hz]; constructor <;> omega
  · simp [cmp1, hx, hy, hz]; constructor <;> omega
  · simp [cmp1, hx, hy, hz]; constructor <;> omega
  · simp [cmp1, hx, hy, hz]; constructor <;> omega
  · rw [e _ _ _ _ _ hx hy, e _ _ _ _ _ hy hz, e _ _ _ _ _ hx hz]
    refine hI.then fun _ _ => hN.then fun h1 h2 => h ?_ ?_
    · have := compareInt_zero h1; omega
    · have := compareInt_zero h2; omega
theorem cmpF_cons : ∀ F G K : Fo, lenF F = lenF G → lenF G = lenF K → Cons (cmpF F G) (cmpF G K) (cmpF F K)
  | .nil, .nil, .nil, _, _ => Cons.zero
  | .nil, .nil, .node _ _ _ _ _, _, h => by simp [lenF] at h
  | .nil, .node _ _ _ _ _, _, h, _ => by simp [lenF] at h
  | .node _ _ _ _ _, .nil, _, h, _ => by simp [lenF] at h
  | .node _ _ _ _ _, .node _ _ _ _ _, .nil, _, h => by simp [lenF] at h
  | .node _ _ x l r, .node _ _ y m s, .node _ _ z p q, h1, h2 => by
    simp only [lenF] at h1 h2
    rw [cmpF, cmpF, cmpF]
    exact (cmp1_cons x y z _ _ _ _ _ _ (fun a b => cmpF_cons l m p a b)).then (fun _ _ => cmpF_cons r s q (by omega) (by omega))

/-- A term: its name, its symbol, its arguments. -/
structure Tm where
  name : ByteArray
  sym : Int
  args : Fo
def cmpT (x y : Tm) : Int := cmp1 (x.name, x.sym) (y.name, y.sym) (lenF x.args) (lenF y.args) (cmpF x.args y.args)
theorem cmpT_anti (x y : Tm) : cmpT y x = - cmpT x y := by unfold cmpT; rw [cmpF_anti]; exact cmp1_anti _ _ _ _ _
theorem cmpT_self (x : Tm) : cmpT x x = 0 := by have := cmpT_anti x x; omega
theorem cmpT_cons (x y z : Tm) : Cons (cmpT x y) (cmpT y z) (cmpT x z) := cmp1_cons _ _ _ _ _ _ _ _ _ (fun a b => cmpF_cons _ _ _ a b)
end Go.Proofs.YtfnfbljijkjkjaaGreat
/- Boxes and rows in memory, what stays of them. -/
namespace Go.Proofs.YtfnfbljijkjkjaaGreat
open Go.RowKit Go.Shelf Go.Deep

theorem boxed_below {W W' : World} {B : Nat} {t : TypeId} {v : Value} (h : Boxed W B t v) (hb : Below W.heap.size W W') : Boxed W' B t v := (hb.block B h.lt).trans h
theorem grown_of_below {A B : World} (h : Below A.heap.size A B) : A.grownBy B none := ⟨h.os, h.tape, h.output, h.size, fun k hk _ => h.block k hk⟩
theorem owns_below {W W' : World} {base e size k : Nat} {v : Value} {xs : List Value} (h : W.ownsRow base e size v k xs) (hb : Below W.heap.size W W') : W'.ownsRow base e size v k xs :=
  h.kept (grown_of_below hb) (by cases v.ownBlock with
    | none => exact .inl rfl
    | some g => exact .inr (by simp))
theorem Tryz.info3 : (Tryz.prog.info? 3).map (fun i => (i.zero, i.size, i.bytes)) = some (some (.int .i64 0), 1, 8) := by kernel_rfl
theorem owns_block {W W' : World} {base e size k : Nat} {v : Value} {xs : List Value} (h : W.ownsRow base e size v k xs) (hb : ∀ g, v.ownBlock = some g → W'.heap[g]? = W.heap[g]?) : W'.ownsRow base e size v k xs := by
  refine ⟨h.1, ?_⟩
  rcases h.2 with h1 | ⟨g, cap, cur, rfl, h2, h3, h4⟩
  · exact .inl h1
  · exact .inr ⟨g, cap, cur, rfl, h2, (hb g rfl).trans h3, h4⟩
theorem owns_cells {W : World} {base e size k g : Nat} {v : Value} {xs : List Value} (h : W.ownsRow base e size v k xs) (hg : v.ownBlock = some g) : base ≤ g ∧ ∃ cur, W.heap[g]? = some (Obj.cells cur e (0, 0)) := by
  rcases h.2 with ⟨rfl, _⟩ | ⟨g', cap, cur, rfl, h2, h3, h4⟩
  · simp [Value.ownBlock] at hg
  · simp only [Value.ownBlock, Option.some.injEq] at hg
    subst hg
    exact ⟨h2, cur, h3⟩
def intsV (l : List Int) : List Value := l.map (Value.int .i64)
def TBox (W : World) (B : Nat) (x : ByteArray × Int) (a : Option Addr) (n c : Nat) : Prop := W.heap[B]? = some (.cells #[.string x.1, .int .i64 x.2, .slice a n c] 26 (0, 0))
theorem TBox.c0 {W : World} {B : Nat} {x : ByteArray × Int} {a : Option Addr} {n c : Nat} (h : TBox W B x a n c) : W.cell? ⟨B, 0, none⟩ = some (.string x.1) := by simp [World.cell?, show W.heap[B]? = _ from h]
theorem TBox.c1 {W : World} {B : Nat} {x : ByteArray × Int} {a : Option Addr} {n c : Nat} (h : TBox W B x a n c) : W.cell? ⟨B, 1, none⟩ = some (.int .i64 x.2) := by simp [World.cell?, show W.heap[B]? = _ from h]
theorem TBox.c2 {W : World} {B : Nat} {x : ByteArray × Int} {a : Option Addr} {n c : Nat} (h : TBox W B x a n c) : W.cell? ⟨B, 2, none⟩ = some (.slice a n c) := by simp [World.cell?, show W.heap[B]? = _ from h]
theorem TBox.new (W : World) (x : ByteArray × Int) (a : Option Addr) (n c : Nat) : TBox (W.alloc (.cells #[.string x.1, .int .i64 x.2, .slice a n c] 26)) W.heap.size x a n c := World.alloc_heap_new W _
theorem TBox.lt {W : World} {B : Nat} {x : ByteArray × Int} {a : Option Addr} {n c : Nat} (h : TBox W B x a n c) : B < W.heap.size := (Array.getElem?_eq_some_iff.1 h).1
theorem TBox.below {W W' : World} {B : Nat} {x : ByteArray × Int} {a : Option Addr} {n c : Nat} (h : TBox W B x a n c) (hb : Below W.heap.size W W') : TBox W' B x a n c := (hb.block B h.lt).trans h
theorem owns_base {W : World} {base base' e size k : Nat} {v : Value} {xs : List Value} (h : W.ownsRow base e size v k xs) (hb : base' ≤ base) : W.ownsRow base' e size v k xs := by
  refine ⟨h.1, ?_⟩
  rcases h.2 with h1 | ⟨g, cap, cur, rfl, h2, h3⟩
  · exact .inl h1
  · exact .inr ⟨g, cap, cur, rfl, by omega, h3⟩
end Go.Proofs.YtfnfbljijkjkjaaGreat
/- Terms in memory that a call has made itself: every list from the head of a block of its own, with a mark behind it or none. -/
namespace Go.Proofs.YtfnfbljijkjkjaaGreat
open Go.RowKit Go.Deep

def markB : ByteArray := ⟨#[77, 97, 114, 107]⟩
/-- The list of these terms, its blocks among those that P lets in. -/
def OwnKids (mk : Bool) (P : Nat → Prop) (w : World) : Fo → Nat → Nat → Prop
  | .nil, _, _ => True
  | .node _ _ x l r, b, o => (∃ a c, w.cell? ⟨b, o, none⟩ = some (.string x.1) ∧ w.cell? ⟨b, o + 1, none⟩ = some (.int .i64 x.2) ∧ w.cell? ⟨b, o + 2, none⟩ = some (.slice a (lenF l) c) ∧ Sizes x.1 (lenF l) c ∧
      ((l = .nil ∧ mk = false) ∨ ∃ g cur, a = some ⟨g, 0, none⟩ ∧ P g ∧ w.heap[g]? = some (Obj.cells cur 26 (0, 0)) ∧ (mk = true → lenF l + 1 ≤ c ∧ w.cell? ⟨g, lenF l * 3, none⟩ = some (.string markB)) ∧ OwnKids mk P w l g 0)) ∧ OwnKids mk P w r b (o + 3)
/-- The same of one term's arguments. -/
structure OwnTm (mk : Bool) (P : Nat → Prop) (w : World) (x : ByteArray × Int) (a : Option Addr) (c : Nat) (l : Fo) : Prop where
  sizes : Sizes x.1 (lenF l) c
  list : (l = .nil ∧ mk = false) ∨ ∃ g cur, a = some ⟨g, 0, none⟩ ∧ P g ∧ w.heap[g]? = some (Obj.cells cur 26 (0, 0)) ∧ (mk = true → lenF l + 1 ≤ c ∧ w.cell? ⟨g, lenF l * 3, none⟩ = some (.string markB)) ∧ OwnKids mk P w l g 0

theorem OwnKids.kids {mk : Bool} {P : Nat → Prop} {w : World} : ∀ {F : Fo} {b o : Nat}, OwnKids mk P w F b o → KidsAt w F b o
  | .nil, _, _, _ => trivial
  | .node _ _ _ l r, b, o, ⟨⟨a, c, h0, h1, h2, hs, hl⟩, hr⟩ => ⟨⟨a, c, h0, h1, h2, hs, by
      rcases hl with ⟨h, _⟩ | ⟨g, cur, ha, _, _, _, hk⟩
      · exact .inl h
      · exact .inr ⟨g, 0, ha, OwnKids.kids hk⟩⟩, OwnKids.kids hr⟩
theorem OwnTm.tm {mk : Bool} {P : Nat → Prop} {w : World} {x : ByteArray × Int} {a : Option Addr} {c : Nat} {l : Fo} (h : OwnTm mk P w x a c l) : TmAt w x a c l :=
  ⟨h.sizes, by
    rcases h.list with ⟨h, _⟩ | ⟨g, cur, ha, _, _, _, hk⟩
    · exact .inl h
    · exact .inr ⟨g, 0, ha, hk.kids⟩⟩
theorem OwnKids.mono {mk : Bool} {P P' : Nat → Prop} {w : World} (hp : ∀ k, k < w.heap.size → P k → P' k) : ∀ {F : Fo} {b o : Nat}, OwnKids mk P w F b o → OwnKids mk P' w F b o
  | .nil, _, _, _ => trivial
  | .node _ _ _ l r, b, o, ⟨⟨a, c, h0, h1, h2, hs, hl⟩, hr⟩ => ⟨⟨a, c, h0, h1, h2, hs, by
      rcases hl with h | ⟨g, cur, ha, hg, hc, hm, hk⟩
      · exact .inl h
      · exact .inr ⟨g, cur, ha, hp g (Array.getElem?_eq_some_iff.1 hc).1 hg, hc, hm, OwnKids.mono hp hk⟩⟩, OwnKids.mono hp hr⟩
theorem OwnTm.mono {mk : Bool} {P P' : Nat → Prop} {w : World} {x : ByteArray × Int} {a : Option Addr} {c : Nat} {l : Fo} (hp : ∀ k, k < w.heap.size → P k → P' k) (h : OwnTm mk P w x a c l) : OwnTm mk P' w x a c l :=
  ⟨h.sizes, by
    rcases h.list with h | ⟨g, cur, ha, hg, hc, hm, hk⟩
    · exact .inl h
    · exact .inr ⟨g, cur, ha, hp g (Array.getElem?_eq_some_iff.1 hc).1 hg, hc, hm, hk.mono hp⟩⟩
theorem OwnKids.keep {mk : Bool} {P : Nat → Prop} {w w' : World} (hp : ∀ k, P k → k < w.heap.size → w'.heap[k]? = w.heap[k]?) : ∀ {F : Fo} {b o : Nat}, w'.heap[b]? = w.heap[b]? → OwnKids mk P w F b o → OwnKids mk P w' F b o
  | .nil, _, _, _, _ => trivial
  | .node _ _ _ l r, b, o, hb, ⟨⟨a, c, h0, h1, h2, hs, hl⟩, hr⟩ => ⟨⟨a, c, (World.cell?_of_block hb).trans h0, (World.cell?_of_block hb).trans h1, (World.cell?_of_block hb).trans h2, hs, by
      rcases hl with h | ⟨g, cur, ha, hg, hc, hm, hk⟩
      · exact .inl h
      · have hgg := hp g hg (Array.getElem?_eq_some_iff.1 hc).1
        exact .inr ⟨g, cur, ha, hg, hgg.trans hc, fun e => ⟨(hm e).1, (World.cell?_of_block hgg).trans (hm e).2⟩, OwnKids.keep hp hgg hk⟩⟩, OwnKids.keep hp hb hr⟩
theorem OwnTm.keep {mk : Bool} {P : Nat → Prop} {w w' : World} {x : ByteArray × Int} {a : Option Addr} {c : Nat} {l : Fo} (hp : ∀ k, P k → k < w.heap.size → w'.heap[k]? = w.heap[k]?) (h : OwnTm mk P w x a c l) : OwnTm mk P w' x a c l :=
  ⟨h.sizes, by
    rcases h.list with h | ⟨g, cur, ha, hg, hc, hm, hk⟩
    · exact .inl h
    · have hgg := hp g hg (Array.getElem?_eq_some_iff.1 hc).1
      exact .inr ⟨g, cur, ha, hg, hgg.trans hc, fun e => ⟨(hm e).1, (World.cell?_of_block hgg).trans (hm e).2⟩, hk.keep hp hgg⟩⟩
theorem OwnTm.below {mk : Bool} {P : Nat → Prop} {w w' : World} {x : ByteArray × Int} {a : Option Addr} {c : Nat} {l : Fo} (h : OwnTm mk P w x a c l) (hb : Below w.heap.size w w') : OwnTm mk P w' x a c l := h.keep fun k _ hk => hb.block k hk

/-! ### lists of terms -/
/-- One term of a list, as its three cells say it. -/
structure Kv where
  x : ByteArray × Int
  l : Fo
  a : Option Addr
  c : Nat
def Kv.cells (k : Kv) : List Value := [.string k.x.1, .int .i64 k.x.2, .slice k.a (lenF k.l) k.c]
def kvCells (ks : List Kv) : List Value := ks.flatMap Kv.cells
def kidsL : Fo → List ((ByteArray × Int) × Fo)
  | .nil => []
  | .node _ _ x l r => (x, l) :: kidsL r
theorem kids_len : ∀ F : Fo, (kidsL F).length = lenF F
  | .nil => rfl
  | .node _ _ _ _ r => by simp [kidsL, lenF, kids_len r]
theorem kids_drop : ∀ (i : Nat) (F : Fo), kidsL (dropF i F) = (kidsL F).drop i
  | 0, F => by rw [drop_zero]; rfl
  | i + 1, .nil => by simp [dropF, kidsL]
  | i + 1, .node _ _ _ _ r => by simp only [dropF, kidsL, List.drop_succ_cons]; exact kids_drop i r
theorem kids_take {F : Fo} {k : Nat} {x : ByteArray × Int} {l : Fo} {B O : Nat} {r : Fo} (h : dropF k F = .node B O x l r) : (kidsL F).take (k + 1) = (kidsL F).take k ++ [(x, l)] := by
  have h1 := kids_drop k F
  rw [h, kidsL] at h1
  have h2 : (kidsL F)[k]? = some (x, l) := by
    have := congrArg (·[0]?) h1
    simpa using this.symm
  rw [List.take_add_one, h2]; rfl
theorem kvCells_len (ks : List Kv) : (kvCells ks).length = ks.length * 3 := by
  induction ks with
  | nil => rfl
  | cons k r ih => simp only [kvCells, List.flatMap_cons, List.length_append, List.length_cons] at ih ⊢; rw [ih]; simp [Kv.cells]; omega
theorem kvCells_snoc (ks : List Kv) (k : Kv) : kvCells (ks ++ [k]) = kvCells ks ++ k.cells := by simp [kvCells]
theorem kv_one (k : Kv) : ∀ u ∈ k.cells, u.oneCell' = true := by
  intro u hu
  simp [Kv.cells] at hu
  rcases hu with rfl | rfl | rfl <;> rfl

/-- A row of cells, and each term's own arguments: the list. -/
theorem ownKids_of {mk : Bool} {P : Nat → Prop} {w : World} {b : Nat} : ∀ (F : Fo) (ks : List Kv) (o : Nat), ks.map (fun k => (k.x, k.l)) = kidsL F → (∀ j u, (kvCells ks)[j]? = some u → w.cell? ⟨b, o + j, none⟩ = some u) → (∀ k ∈ ks, OwnTm mk P w k.x k.a k.c k.l) → OwnKids mk P w F b o
  | .nil, _, _, _, _, _ => trivial
  | .node _ _ x l r, [], o, h, _, _ => by simp [kidsL] at h
  | .node _ _ x l r, k :: ks, o, h, hc, ho => by
    simp only [List.map_cons, kidsL, List.cons.injEq, Prod.mk.injEq] at h
    obtain ⟨⟨rfl, rfl⟩, h⟩ := h
    have e : kvCells (k :: ks) = .string k.x.1 :: .int .i64 k.x.2 :: .slice k.a (lenF k.l) k.c :: kvCells ks := rfl
    rw [e] at hc
    have hk := ho k (by simp)
    refine ⟨⟨k.a, k.c, hc 0 _ rfl, hc 1 _ rfl, hc 2 _ rfl, hk.sizes, hk.list⟩, ownKids_of r ks (o + 3) h (fun j u hu => ?_) (fun k' hk' => ho k' (by simp [hk']))⟩
    have := hc (j + 3) u (by simpa using hu)
    rw [show o + 3 + j = o + (j + 3) by omega]
    exact this
theorem Tryz.info26 : (Tryz.prog.info? 26).map (fun i => (i.zero, i.size, i.bytes)) = some (some (.agg #[.string ⟨#[]⟩, .int .i64 0, .slice none 0 0]), 3, 48) := by kernel_rfl
/-- What a row that is owned holds, cell by cell. -/
theorem owns_at {w : World} {base e size g n cap : Nat} {xs : List Value} (h : w.ownsRow base e size (.slice (some ⟨g, 0, none⟩) n cap) n xs) : ∀ j u, xs[j]? = some u → w.cell? ⟨g, 0 + j, none⟩ = some u := by
  intro j u hu
  rcases h.2 with ⟨hv, _⟩ | ⟨g', cap', cur, hv, _, hh, _, _, _, hcur⟩
  · cases hv
  · cases hv
    have hj : j < xs.length := by
      rcases Nat.lt_or_ge j xs.length with h' | h'
      · exact h'
      · rw [List.getElem?_eq_none h'] at hu; cases hu
    rw [Nat.zero_add, cell_of_row w g j cur e (0, 0) hh, ← hu, ← hcur, List.getElem?_take_of_lt (by have := h.1; omega)]
    simp
end Go.Proofs.YtfnfbljijkjkjaaGreat
/- What Lent makes: the term in new memory, a mark behind each list. -/
namespace Go.Proofs.YtfnfbljijkjkjaaGreat
open Go.RowKit Go.Deep

/-- A term in a box, whose list is v. -/
def XBox (W : World) (B : Nat) (x : ByteArray × Int) (v : Value) : Prop := W.heap[B]? = some (.cells #[.string x.1, .int .i64 x.2, v] 26 (0, 0))
theorem XBox.c0 {W : World} {B : Nat} {x : ByteArray × Int} {v : Value} (h : XBox W B x v) : W.cell? ⟨B, 0, none⟩ = some (.string x.1) := by simp [World.cell?, show W.heap[B]? = _ from h]
theorem XBox.c1 {W : World} {B : Nat} {x : ByteArray × Int} {v : Value} (h : XBox W B x v) : W.cell? ⟨B, 1, none⟩ = some (.int .i64 x.2) := by simp [World.cell?, show W.heap[B]? = _ from h]
theorem XBox.c2 {W : World} {B : Nat} {x : ByteArray × Int} {v : Value} (h : XBox W B x v) : W.cell? ⟨B, 2, none⟩ = some v := by simp [World.cell?, show W.heap[B]? = _ from h]
theorem XBox.f {W : World} {B k : Nat} {x : ByteArray × Int} {v : Value} (h : XBox W B x v) : W.frozen? ⟨B, k, none⟩ = false := by simp [World.frozen?, show W.heap[B]? = _ from h]
theorem XBox.lt {W : World} {B : Nat} {x : ByteArray × Int} {v : Value} (h : XBox W B x v) : B < W.heap.size := (Array.getElem?_eq_some_iff.1 h).1
theorem XBox.below {W W' : World} {B : Nat} {x : ByteArray × Int} {v : Value} (h : XBox W B x v) (hb : Below W.heap.size W W') : XBox W' B x v := (hb.block B h.lt).trans h
theorem XBox.kept {W W' : World} {row : Option Nat} {B : Nat} {x : ByteArray × Int} {v : Value} (h : XBox W B x v) (hg : W.grownBy W' row) (hne : some B ≠ row) : XBox W' B x v := (hg.block B h.lt hne).trans h
theorem XBox.set {W : World} {B : Nat} {x : ByteArray × Int} {v : Value} (h : XBox W B x v) (u : Value) : XBox (W.setCell ⟨B, 2, none⟩ u) B x u := by
  obtain ⟨hlt, hk⟩ := Array.getElem?_eq_some_iff.1 h
  show (W.heap.modify B _)[B]? = _
  rw [Array.getElem?_eq_getElem (by rw [Array.size_modify]; exact hlt), Array.getElem_modify_self, hk]
  rfl
theorem XBox.other {W : World} {B : Nat} {x : ByteArray × Int} {v : Value} (h : XBox W B x v) {p : Addr} (hne : B ≠ p.block) (u : Value) : XBox (W.setCell p u) B x v := (Below.heap_setCell W p u B hne).trans h

/-- The boxes of a function that builds a term: of what came in, of the answer, of what is built. -/
structure Three (w : World) (x : ByteArray × Int) (a : Option Addr) (n c : Nat) (W : World) (v : Value) : Prop where
  low : Below w.heap.size w W
  t : TBox W w.heap.size x a n c
  r : W.heap[w.heap.size + 1]? = some (.cells #[.string ⟨#[]⟩, .int .i64 0, .slice none 0 0] 26 (0, 0))
  x : XBox W (w.heap.size + 1 + 1) x v
/-- What has been built of the list: these terms, in a row of the call's own, their own lists elsewhere. -/
structure Built (mk : Bool) (w : World) (W : World) (v : Value) (j : Nat) (ks : List Kv) : Prop where
  row : W.ownsRow (w.heap.size + 3) 26 3 v j (kvCells ks)
  own : ∀ k ∈ ks, OwnTm mk (fun q => w.heap.size + 3 ≤ q ∧ some q ≠ v.ownBlock) W k.x k.a k.c k.l

theorem Three.new (w : World) (x : ByteArray × Int) (a : Option Addr) (n c : Nat) : Three w x a n c (((w.alloc (.cells #[.string x.1, .int .i64 x.2, .slice a n c] 26)).alloc (.cells #[.string ⟨#[]⟩, .int .i64 0, .slice none 0 0] 26)).alloc (.cells #[.string x.1, .int .i64 x.2, .slice none 0 0] 26)) (.slice none 0 0) := by
  refine ⟨(((Below.refl _ w).alloc (Nat.le_refl _) _).alloc (by simp) _).alloc (by simp; omega) _, ?_, ?_, ?_⟩
  · exact ((TBox.new w x a n c).below ((Below.refl _ _).alloc (Nat.le_refl _) _)).below ((Below.refl _ _).alloc (Nat.le_refl _) _)
  · rw [Below.heap_alloc _ _ _ (by simp)]
    have := World.alloc_heap_new (w.alloc (.cells #[.string x.1, .int .i64 x.2, .slice a n c] 26)) (.cells #[.string ⟨#[]⟩, .int .i64 0, .slice none 0 0] 26)
    rwa [World.size_alloc] at this
  · have := World.alloc_heap_new ((w.alloc (.cells #[.string x.1, .int .i64 x.2, .slice a n c] 26)).alloc (.cells #[.string ⟨#[]⟩, .int .i64 0, .slice none 0 0] 26)) (.cells #[.string x.1, .int .i64 x.2, .slice none 0 0] 26)
    rw [World.size_alloc, World.size_alloc] at this
    exact this
/-- One term more: the callee has made it; it is appended; the list is stored. -/
theorem build_step {mk : Bool} {w wr w1 w3 : World} {x : ByteArray × Int} {a : Option Addr} {n c j g cap : Nat} {v : Value} {ks : List Kv} {kv : Kv} {o : Obj} (hT : Three w x a n c wr v) (hB : Built mk w wr v j ks) (hW : Below wr.heap.size wr w1)
    (hk : OwnTm mk (fun k => wr.heap.size ≤ k) w1 kv.x kv.a kv.c kv.l) (hg : (w1.alloc o).grownBy w3 v.ownBlock) (hat : v.ownBlock = some g ∨ g = w1.heap.size + 1)
    (ho : w3.ownsRow (w.heap.size + 3) 26 3 (.slice (some ⟨g, 0, none⟩) (j + 1) cap) (j + 1) (kvCells ks ++ kv.cells)) :
    Three w x a n c (w3.setCell ⟨w.heap.size + 1 + 1, 2, none⟩ (.slice (some ⟨g, 0, none⟩) (j + 1) cap)) (.slice (some ⟨g, 0, none⟩) (j + 1) cap) ∧
    Built mk w (w3.setCell ⟨w.heap.size + 1 + 1, 2, none⟩ (.slice (some ⟨g, 0, none⟩) (j + 1) cap)) (.slice (some ⟨g, 0, none⟩) (j + 1) cap) (j + 1) (ks ++ [kv]) := by
  have hxlt := hT.x.lt
  have hsz := hW.size
  have hWa : Below wr.heap.size wr (w1.alloc o) := hW.alloc hsz _
  have far : ∀ k, k < w.heap.size + 3 → k < wr.heap.size → w3.heap[k]? = wr.heap[k]? := fun k hk hlt => by
    rw [hg.block k (by rw [World.size_alloc]; omega) (fun e => by have := (owns_cells hB.row e.symm).1; omega)]
    exact hWa.block k hlt
  have hlow : Below w.heap.size w w3 := hT.low.trans ((hWa.mono (by have := hT.low.size; omega)).grown hg (by simp; omega) (fun k e => by have := (owns_cells hB.row e).1; omega))
  have hrow : (w3.setCell ⟨w.heap.size + 1 + 1, 2, none⟩ (.slice (some ⟨g, 0, none⟩) (j + 1) cap)).ownsRow (w.heap.size + 3) 26 3 (.slice (some ⟨g, 0, none⟩) (j + 1) cap) (j + 1) (kvCells ks ++ kv.cells) := owns_block ho (fun q hq => by
    have := (owns_cells ho hq).1
    exact Below.heap_setCell w3 _ _ q (by show q ≠ w.heap.size + 1 + 1; omega))
  refine ⟨⟨hlow.setCell (p := ⟨w.heap.size + 1 + 1, 2, none⟩) (by show w.heap.size ≤ w.heap.size + 1 + 1; omega) _, ?_, ?_, ?_⟩, ⟨by rw [kvCells_snoc]; exact hrow, ?_⟩⟩
  · exact ((Below.heap_setCell w3 _ _ _ (by show w.heap.size ≠ w.heap.size + 1 + 1; omega)).trans (far _ (by omega) (by omega))).trans hT.t
  · exact ((Below.heap_setCell w3 _ _ _ (by show w.heap.size + 1 ≠ w.heap.size + 1 + 1; omega)).trans (far _ (by omega) (by omega))).trans hT.r
  · exact XBox.set ((far _ (by omega) (by omega)).trans hT.x) _
  · intro k hkm
    have set : ∀ (q : Nat), (w.heap.size + 3 ≤ q ∧ some q ≠ some g) → q < w3.heap.size → (w3.setCell ⟨w.heap.size + 1 + 1, 2, none⟩ (.slice (some ⟨g, 0, none⟩) (j + 1) cap)).heap[q]? = w3.heap[q]? := fun q hq _ => Below.heap_setCell w3 _ _ q (by show q ≠ w.heap.size + 1 + 1; omega)
    have grow : ∀ (q : Nat), some q ≠ v.ownBlock → q < (w1.alloc o).heap.size → w3.heap[q]? = (w1.alloc o).heap[q]? := fun q hq hlt => hg.block q hlt hq
    rcases List.mem_append.1 hkm with hkm | hkm
    · have h1 := (hB.own k hkm).below hWa
      have h2 : OwnTm mk (fun q => (w.heap.size + 3 ≤ q ∧ some q ≠ some g) ∧ some q ≠ v.ownBlock) (w1.alloc o) k.x k.a k.c k.l := by
        have h0 : OwnTm mk (fun q => (w.heap.size + 3 ≤ q ∧ some q ≠ some g) ∧ some q ≠ v.ownBlock) wr k.x k.a k.c k.l := (hB.own k hkm).mono (fun q hq hp => ⟨⟨hp.1, by
          rcases hat with e | e
          · rw [← e]; exact hp.2
          · intro e'; cases e'; omega⟩, hp.2⟩)
        exact h0.below hWa
      exact ((h2.keep (fun q hq hlt => grow q hq.2 hlt)).mono (fun q _ hq => hq.1)).keep set
    · simp only [List.mem_singleton] at hkm
      subst hkm
      have h2 : OwnTm mk (fun q => (w.heap.size + 3 ≤ q ∧ some q ≠ some g) ∧ some q ≠ v.ownBlock) w1 k.x k.a k.c k.l := hk.mono (fun q hq hp => ⟨⟨by omega, by
        rcases hat with e | e
        · intro e'
          cases e'
          have := (owns_cells hB.row e).2
          obtain ⟨cur, hc⟩ := this
          have := (Array.getElem?_eq_some_iff.1 hc).1
          omega
        · intro e'; cases e'; omega⟩, fun e' => by
          obtain ⟨cur, hc⟩ := (owns_cells hB.row e'.symm).2
          have := (Array.getElem?_eq_some_iff.1 hc).1
          omega⟩)
      exact (((h2.below ((Below.refl _ _).alloc (Nat.le_refl _) o)).keep (fun q hq hlt => grow q hq.2 hlt)).mono (fun q _ hq => hq.1)).keep set

theorem owns_cap {w : World} {base e size g n cap : Nat} {xs : List Value} (h : w.ownsRow base e size (.slice (some ⟨g, 0, none⟩) n cap) n xs) : n ≤ cap ∧ cap ≤ maxLen := by
  rcases h.2 with ⟨hv, _⟩ | ⟨g', cap', cur', hv, _, _, hnc, hcm, _⟩
  · cases hv
  · cases hv; exact ⟨hnc, hcm⟩
theorem block_set {W : World} {B k : Nat} {cs : Array Value} {t : TypeId} {fr : Nat × Nat} (h : W.heap[B]? = some (Obj.cells cs t fr)) (u : Value) : (W.setCell ⟨B, k, none⟩ u).heap[B]? = some (Obj.cells (cs.setIfInBounds k u) t fr) := by
  obtain ⟨hlt, hk⟩ := Array.getElem?_eq_some_iff.1 h
  show (W.heap.modify B _)[B]? = _
  rw [Array.getElem?_eq_getElem (by rw [Array.size_modify]; exact hlt), Array.getElem_modify_self, hk]
  rfl
/-- A term stored over another. -/
theorem XBox.all {W : World} {B : Nat} {x y : ByteArray × Int} {v : Value} (h : XBox W B y v) (u : Value) : XBox (((W.setCell ⟨B, 0, none⟩ (.string x.1)).setCell ⟨B, 1, none⟩ (.int .i64 x.2)).setCell ⟨B, 2, none⟩ u) B x u := by
  have := block_set (k := 2) (block_set (k := 1) (block_set (k := 0) h (.string x.1)) (.int .i64 x.2)) u
  exact this
theorem Tryz.size26 : (Tryz.prog.info? 26).map (·.size) = some 3 := by kernel_rfl
/-- The three stores of the answer turn one block. -/
theorem sets_far {W : World} {B q : Nat} (h : q ≠ B) (a b c : Value) : (((W.setCell ⟨B, 0, none⟩ a).setCell ⟨B, 1, none⟩ b).setCell ⟨B, 2, none⟩ c).heap[q]? = W.heap[q]? :=
  ((Below.heap_setCell _ _ _ _ h).trans (Below.heap_setCell _ _ _ _ h)).trans (Below.heap_setCell _ _ _ _ h)
theorem sets_below {n0 : Nat} {w W : World} {B : Nat} (hb : Below n0 w W) (h : n0 ≤ B) (a b c : Value) : Below n0 w (((W.setCell ⟨B, 0, none⟩ a).setCell ⟨B, 1, none⟩ b).setCell ⟨B, 2, none⟩ c) :=
  ((hb.setCell (p := ⟨B, 0, none⟩) h _).setCell (p := ⟨B, 1, none⟩) h _).setCell (p := ⟨B, 2, none⟩) h _
def markK : Kv := ⟨(markB, 0), .nil, none, 0⟩
/-- The list with the mark behind it. -/
theorem lent_done {w wr wd w3 W : World} {x : ByteArray × Int} {l : Fo} {g cap : Nat} {v : Value} {ks : List Kv} (hs : Sizes x.1 (lenF l) cap) (hB : Built true w wr v (lenF l) ks) (hks : ks.map (fun k => (k.x, k.l)) = kidsL l)
    (hd : ∀ q, q < wr.heap.size → wd.heap[q]? = wr.heap[q]?) (hdz : wr.heap.size < wd.heap.size) (hg : wd.grownBy w3 v.ownBlock)
    (ho : w3.ownsRow (w.heap.size + 3) 26 3 (.slice (some ⟨g, 0, none⟩) (lenF l + 1) cap) (lenF l + 1) (kvCells ks ++ markK.cells)) (hW : ∀ q, w.heap.size + 3 ≤ q → W.heap[q]? = w3.heap[q]?) : OwnTm true (fun k => w.heap.size ≤ k) W x (some ⟨g, 0, none⟩) cap l := by
  have hlen : ks.length = lenF l := by have := congrArg List.length hks; rwa [List.length_map, kids_len] at this
  obtain ⟨hge, cur, hcur⟩ := owns_cells ho (g := g) rfl
  have hcap : lenF l + 1 ≤ cap := by
    rcases ho.2 with ⟨hv, _⟩ | ⟨g', cap', cur', hv, _, _, hnc, _⟩
    · cases hv
    · cases hv; exact hnc
  have hWg : W.heap[g]? = w3.heap[g]? := hW g hge
  have hat3 := owns_at ho
  have kids : OwnKids true (fun k => w.heap.size ≤ k) W l g 0 := by
    refine ownKids_of l ks 0 hks (fun j u hu => ?_) (fun k hk => ?_)
    · rw [show W.cell? ⟨g, 0 + j, none⟩ = w3.cell? ⟨g, 0 + j, none⟩ from World.cell?_of_block hWg]
      exact hat3 j u (by rw [List.getElem?_append_left (by
        rcases Nat.lt_or_ge j (kvCells ks).length with h' | h'
        · exact h'
        · rw [List.getElem?_eq_none h'] at hu; cases hu)]; exact hu)
    · have h1 := hB.own k hk
      refine (h1.keep (w' := W) (fun q hq hlt => ?_)).mono (fun q _ hq => by omega)
      rw [hW q hq.1, hg.block q (by omega) hq.2]
      exact hd q hlt
  refine ⟨hs, .inr ⟨g, cur, rfl, by omega, hWg.trans hcur, fun _ => ⟨hcap, ?_⟩, kids⟩⟩
  rw [show W.cell? ⟨g, lenF l * 3, none⟩ = w3.cell? ⟨g, lenF l * 3, none⟩ from World.cell?_of_block hWg]
  have := hat3 (lenF l * 3) (.string markB) (by rw [List.getElem?_append_right (by rw [kvCells_len]; omega), kvCells_len, hlen]; simp [Kv.cells, markK])
  rwa [Nat.zero_add] at this

end Go.Proofs.YtfnfbljijkjkjaaGreat
/- A statement whose order is open, whose calls may make memory but turn nothing that was there: one walk in the text's order serves. -/
namespace Go.Proofs.YtfnfbljijkjkjaaGreat
open Go.RowKit

/-- A world in which all that was there is as it was. -/
structure Later (w : World) where
  now : World
  below : Below w.heap.size w now

theorem later_some (w : World) : Nonempty (Later w) := ⟨⟨w, Below.refl _ _⟩⟩

theorem wp_region_later {P : Program} {id : Nat} {Q : Exit → Act → World → Prop} {a : Act} {w : World} {l : List Oper} (hm : P.follows .mixedOrders = true) (hB : Region.lexB .any l.toArray = true)
    (h : wpQuiet P l.toArray (fun w' => ∃ b : Later w, w' = b.now) (fun a' => ∀ w', (∃ b : Later w, w' = b.now) → Q .normal a' w') l a) : (Code.region id l.toArray true).wp P Q a w :=
  wp_region_quiet (C := fun w' => ∃ b : Later w, w' = b.now) hm hB ⟨⟨w.drew, (Below.refl _ _).drew⟩, rfl⟩ (by simpa using h)

/-- A callee's contract, met in a later world. -/
theorem calls_later {P : Program} {f : FuncId} {args : Array Value} {w : World} {b : Later w} {v : Value}
    (h : Calls P f args b.now fun e w' => e = .returned v ∧ Below b.now.heap.size b.now w') : Calls P f args b.now fun e w'' => e = .returned v ∧ ∃ b' : Later w, w'' = b'.now :=
  h.mono fun _ w' ⟨he, hb⟩ => ⟨he, ⟨w', b.below.trans (hb.mono b.below.size)⟩, rfl⟩
theorem calls_later_same {P : Program} {f : FuncId} {args : Array Value} {w : World} {b : Later w} {v : Value}
    (h : Calls P f args b.now fun e w' => e = .returned v ∧ w' = b.now) : Calls P f args b.now fun e w'' => e = .returned v ∧ ∃ b' : Later w, w'' = b'.now :=
  h.mono fun _ _ ⟨he, hb⟩ => ⟨he, b, hb⟩
theorem later_cell {w : World} {p : Addr} {v : Value} (h : w.cell? p = some v) (b : Later w) : b.now.cell? p = some v := by
  rw [b.below.cell (World.block_lt_of_cell? w p h)]; exact h
end Go.Proofs.YtfnfbljijkjkjaaGreat
/- What Kept answers of a lent term that reads as it did. -/
namespace Go.Proofs.YtfnfbljijkjkjaaGreat
open Go.RowKit Go.Deep

set_option maxRecDepth 100000 in
theorem OwnKids.drop {mk : Bool} {P : Nat → Prop} {w : World} : ∀ (i : Nat) {F : Fo} {b o : Nat}, OwnKids mk P w F b o → OwnKids mk P w (dropF i F) b (o + i * 3)
  | 0, F, b, o, h => by rw [drop_zero]; simpa using h
  | i + 1, .nil, b, o, _ => by simp [dropF, OwnKids]
  | i + 1, .node _ _ _ _ r, b, o, ⟨_, hr⟩ => by
    have := OwnKids.drop i hr
    rw [show o + 3 + i * 3 = o + (i + 1) * 3 by omega] at this
    exact this
set_option maxRecDepth 100000 in
theorem OwnKids.kid {mk : Bool} {P : Nat → Prop} {w : World} {F : Fo} {b o k : Nat} (h : OwnKids mk P w F b o) (hk : k < lenF F) : ∃ x a c l, Kid w F b o k x a c l ∧ OwnTm mk P w x a c l := by
  obtain ⟨B, O, x, l, r, hd⟩ := drop_node k F hk
  have h1 := h.drop k
  have h2 := nodes_drop k F
  rw [hd] at h1 h2
  obtain ⟨⟨a, c, h3, h4, h5, h6, h7⟩, _⟩ := h1
  have ho : OwnTm mk P w x a c l := ⟨h6, h7⟩
  exact ⟨x, a, c, l, ⟨h3, h4, h5, ho.tm, ⟨B, O, by rw [drop_succ k F hd]; exact hd⟩, by simp only [nodesF] at h2; omega⟩, ho⟩
set_option maxRecDepth 100000 in
theorem kid_same {w w' : World} {F : Fo} {b o b' o' k : Nat} {x y : ByteArray × Int} {a a' : Option Addr} {c c' : Nat} {l m : Fo} (h : Kid w F b o k x a c l) (h' : Kid w' F b' o' k y a' c' m) : y = x ∧ m = l := by
  obtain ⟨_, _, e⟩ := h.split
  obtain ⟨_, _, e'⟩ := h'.split
  rw [e] at e'
  cases e'
  exact ⟨rfl, rfl⟩

/-- The two boxes of a function of two terms. -/
structure Pair (w : World) (x : ByteArray × Int) (a : Option Addr) (n c : Nat) (y : ByteArray × Int) (b : Option Addr) (m d : Nat) (W : World) : Prop where
  low : Below w.heap.size w W
  l : TBox W w.heap.size x a n c
  r : TBox W (w.heap.size + 1) y b m d
set_option maxRecDepth 100000 in
theorem Pair.new (w : World) (x : ByteArray × Int) (a : Option Addr) (n c : Nat) (y : ByteArray × Int) (b : Option Addr) (m d : Nat) : Pair w x a n c y b m d ((w.alloc (.cells #[.string x.1, .int .i64 x.2, .slice a n c] 26)).alloc (.cells #[.string y.1, .int .i64 y.2, .slice b m d] 26)) := by
  refine ⟨((Below.refl _ w).alloc (Nat.le_refl _) _).alloc (by simp) _, (TBox.new w x a n c).below ((Below.refl _ _).alloc (Nat.le_refl _) _), ?_⟩
  have := TBox.new (w.alloc (.cells #[.string x.1, .int .i64 x.2, .slice a n c] 26)) y b m d
  rw [World.size_alloc] at this
  exact this
set_option maxRecDepth 100000 in
theorem Pair.below {w : World} {x : ByteArray × Int} {a : Option Addr} {n c : Nat} {y : ByteArray × Int} {b : Option Addr} {m d : Nat} {W W' : World} (h : Pair w x a n c y b m d W) (hb : Below W.heap.size W W') : Pair w x a n c y b m d W' :=
  ⟨h.low.trans (hb.mono h.low.size), h.l.below hb, h.r.below hb⟩

end Go.Proofs.YtfnfbljijkjkjaaGreat
/- Signatures in memory; what is wrong with a node, plain and as the program and the document say it. -/
namespace Go.Proofs.YtfnfbljijkjkjaaGreat
open Go.RowKit Go.Deep

def takesB (s : Sym) (n : Nat) : Bool := if s.kind = 1 then (n : Int) == s.arity else decide (2 ≤ n)
def varErr (x : ByteArray × Int) (n : Nat) : Int := if varB x.1 = true ∧ x.2 = 0 ∧ n = 0 then 0 else 31
/-- What is wrong with a node. -/
def nodeErr (S : List Sym) (x : ByteArray × Int) (n : Nat) : Int :=
  if noName x.1 = false then varErr x n else if 0 ≤ x.2 then (match S[x.2.toNat]? with | some s => if takesB s n = true then 0 else 33 | none => 32) else 32

theorem nodeErr_in {S : List Sym} {x : ByteArray × Int} {n : Nat} (h : noName x.1 = true) (h0 : 0 ≤ x.2) (h1 : x.2.toNat < S.length) : nodeErr S x n = if takesB S[x.2.toNat] n = true then 0 else 33 := by
  unfold nodeErr
  rw [if_neg (by simp [h]), if_pos h0, List.getElem?_eq_getElem h1]
theorem nodeErr_out {S : List Sym} {x : ByteArray × Int} {n : Nat} (h : noName x.1 = true) (h1 : x.2 < 0 ∨ (S.length : Int) ≤ x.2) : nodeErr S x n = 32 := by
  unfold nodeErr
  rw [if_neg (by simp [h])]
  by_cases h0 : 0 ≤ x.2
  · rw [if_pos h0, List.getElem?_eq_none (by omega)]
  · rw [if_neg h0]

end Go.Proofs.YtfnfbljijkjkjaaGreat
/- What the document's Check answers of any term by any signature. -/
namespace Go.Proofs.YtfnfbljijkjkjaaGreat
open Go.RowKit Go.Deep

/-- What is wrong in a list of terms: of the first node at which something is. -/
def errF (S : List Sym) : Fo → Int
  | .nil => 0
  | .node _ _ x l r => thenC (thenC (nodeErr S x (lenF l)) (errF S l)) (errF S r)
def errT (S : List Sym) (x : ByteArray × Int) (l : Fo) : Int := thenC (nodeErr S x (lenF l)) (errF S l)
/-- What is left of most nodes; below zero, if there are more. -/
def ovF : Fo → Int → Int
  | .nil, m => m
  | .node _ _ _ l r, m => if m < 0 then m else ovF r (ovF l (m - 1))
theorem ov_neg : ∀ (F : Fo) (m : Int), m < 0 → ovF F m = m
  | .nil, _, _ => rfl
  | .node _ _ _ _ _, m, h => by rw [ovF, if_pos h]
theorem ov_is : ∀ (F : Fo) (m : Int), 0 ≤ m → ovF F m = if (nodesF F : Int) ≤ m then m - nodesF F else -1
  | .nil, m, h => by simp [ovF, nodesF, h]
  | .node _ _ x l r, m, h => by
    show _ = if ((nodesF l + nodesF r + 1 : Nat) : Int) ≤ m then m - ((nodesF l + nodesF r + 1 : Nat) : Int) else -1
    rw [ovF, if_neg (by omega)]
    by_cases h1 : m = 0
    · subst h1
      rw [ov_neg l _ (by omega), ov_neg r _ (by omega), if_neg (by omega)]; rfl
    · rw [ov_is l (m - 1) (by omega)]
      by_cases h2 : (nodesF l : Int) ≤ m - 1
      · rw [if_pos h2, ov_is r _ (by omega)]
        by_cases h3 : (nodesF r : Int) ≤ m - 1 - nodesF l
        · rw [if_pos h3, if_pos (by omega)]; omega
        · rw [if_neg h3, if_neg (by omega)]
      · rw [if_neg h2, ov_neg r _ (by omega), if_neg (by omega)]

set_option maxHeartbeats 1000000 in
theorem node_any (S : List Sym) (sa : Option Addr) (sn sc : Nat) (x : ByteArray × Int) (a : Option Addr) (n c : Nat) (w : World) (hS : SigAt w sa sn S) (hs : x.1.size ≤ maxLen) :
    Calls Tryz.prog 58 #[.slice sa sn sc, .agg #[.string x.1, .int .i64 x.2, .slice a n c]] w fun e w' => e = .returned (.int .i64 (nodeErr S x n)) ∧ Below w.heap.size w w' := by
  have hb1 : Hid (Below w.heap.size w (w.alloc (.cells #[.string x.1, .int .i64 x.2, .slice a n c] 26))) := (Below.refl _ w).alloc (Nat.le_refl _) _
  have hlen := hS.len
  have hsm := hS.small
  have HS : Hid (SigAt w sa sn S) := hS
  unfold maxLen at hsm
  clear hS
  cases hx : x.1.toList.isEmpty
  · have hE : Hid (nodeErr S x n = varErr x n) := by show _ = _; unfold nodeErr noName; rw [hx]; rfl
    have hE2 : varErr x n = if varB x.1 = true ∧ x.2 = 0 ∧ n = 0 then 0 else 31 := rfl
    have bx := TBox.new w x a n c
    have hv := rvar_any x.1 (w.alloc (.cells #[.string x.1, .int .i64 x.2, .slice a n c] 26)) hs
    go_enter Tryz.func58, Tryz.ntmps58
    go_wp2_with fail
    refine hv.mono ?_
    rintro e w2 ⟨rfl, hw2⟩
    have HB : Hid (Below w.heap.size w w2) := by first | (rw [hw2]; exact hb1.out) | exact hb1.out.trans (hw2.mono hb1.out.size)
    have bx2 : TBox w2 w.heap.size x a n c := by first | (rw [hw2]; exact bx) | exact bx.below hw2
    have c1 := bx2.c1
    have c2 := bx2.c2
    clear hv bx bx2 hw2
    cases h1 : varB x.1
    · rw [h1] at hE2
      go_wp2
      go_ret
      exact ⟨by rw [hE.out, hE2]; simp, HB.out⟩
    · rw [h1] at hE2
      cases h2 : (x.2 != 0)
      · have h2' : x.2 = 0 := by simpa using h2
        by_cases h3 : 0 < n
        · go_wp2
          go_ret
          exact ⟨by rw [hE.out, hE2, if_neg (by omega)]; rfl, HB.out⟩
        · go_wp2
          go_ret
          exact ⟨by rw [hE.out, hE2, if_pos (by simp; omega)]; rfl, HB.out⟩
      · have h2' : x.2 ≠ 0 := by simpa using h2
        go_wp2
        go_ret
        exact ⟨by rw [hE.out, hE2, if_neg (by simp; omega)]; rfl, HB.out⟩
  · by_cases h0 : x.2 < 0
    · have hE : Hid (nodeErr S x n = 32) := nodeErr_out hx (.inl h0)
      go_enter Tryz.func58, Tryz.ntmps58
      go_wp2
      go_ret
      exact ⟨by rw [hE.out]; rfl, hb1.out⟩
    · by_cases h1 : (sn : Int) ≤ x.2
      · have hE : Hid (nodeErr S x n = 32) := nodeErr_out hx (.inr (by omega))
        go_enter Tryz.func58, Tryz.ntmps58
        go_wp2
        go_ret
        exact ⟨by rw [hE.out]; rfl, hb1.out⟩
      · have hlt : x.2.toNat < S.length := by omega
        have hE : Hid (nodeErr S x n = if takesB S[x.2.toNat] n = true then 0 else 33) := nodeErr_in hx (by omega) hlt
        obtain ⟨b, off, rfl, sy⟩ := HS.out.cells _ hlt
        have sy' := sy.below hb1.out
        have hk0 : (0 : Int) ≤ x.2 := by omega
        have hkn : x.2 < (sn : Int) := by omega
        have s0 := sy'.name; have s1 := sy'.kind; have s2 := sy'.arity; have s3 := sy'.unit
        clear sy sy' HS hlen
        obtain ⟨s, hsd⟩ : ∃ s, S[x.2.toNat] = s := ⟨_, rfl⟩
        rw [hsd] at s0 s1 s2 s3 hE
        clear hsd
        have hT : takesB s n = if s.kind = 1 then (n : Int) == s.arity else decide (2 ≤ n) := rfl
        have hb2 : Hid (Below w.heap.size w ((w.alloc (.cells #[.string x.1, .int .i64 x.2, .slice a n c] 26)).alloc (.cells #[.string s.name, .int .i64 s.kind, .int .i64 s.arity, .string s.unit] 47))) := hb1.out.alloc hb1.out.size _
        cases hk : (s.kind == 1)
        · have hk2 : (s.kind != 1) = true := by simpa using hk
          rw [if_neg (by simpa using hk)] at hT
          by_cases h2 : n < 2
          · rw [show decide (2 ≤ n) = false by simp; omega] at hT
            rw [hT] at hE
            go_enter Tryz.func58, Tryz.ntmps58
            go_wp2
            go_ret
            exact ⟨by rw [hE.out]; rfl, hb2.out⟩
          · rw [show decide (2 ≤ n) = true by simp; omega] at hT
            rw [hT] at hE
            go_enter Tryz.func58, Tryz.ntmps58
            go_wp2
            go_ret
            exact ⟨by rw [hE.out]; rfl, hb2.out⟩
        · have hk2 : (s.kind != 1) = false := by simpa using hk
          rw [if_pos (by simpa using hk)] at hT
          cases ha : ((n : Int) == s.arity)
          · rw [ha] at hT
            rw [hT] at hE
            have ha' : ((n : Int) != s.arity) = true := by simpa using ha
            go_enter Tryz.func58, Tryz.ntmps58
            go_wp2
            go_ret
            exact ⟨by rw [hE.out]; rfl, hb2.out⟩
          · rw [ha] at hT
            rw [hT] at hE
            have ha' : ((n : Int) != s.arity) = false := by simpa using ha
            go_enter Tryz.func58, Tryz.ntmps58
            go_wp2
            go_ret
            exact ⟨by rw [hE.out]; rfl, hb2.out⟩
end Go.Proofs.YtfnfbljijkjkjaaGreat
/- How many nodes, and what is wrong node by node: the document's Check, whole. -/
namespace Go.Proofs.YtfnfbljijkjkjaaGreat
open Go.RowKit Go.Deep

/-- The box of a function of one term. -/
structure One (w : World) (x : ByteArray × Int) (a : Option Addr) (n c : Nat) (W : World) : Prop where
  low : Below w.heap.size w W
  t : TBox W w.heap.size x a n c
theorem One.new (w : World) (x : ByteArray × Int) (a : Option Addr) (n c : Nat) : One w x a n c (w.alloc (.cells #[.string x.1, .int .i64 x.2, .slice a n c] 26)) := ⟨(Below.refl _ w).alloc (Nat.le_refl _) _, TBox.new _ _ _ _ _⟩
theorem One.below {w : World} {x : ByteArray × Int} {a : Option Addr} {n c : Nat} {W W' : World} (h : One w x a n c W) (hb : Below W.heap.size W W') : One w x a n c W' := ⟨h.low.trans (hb.mono h.low.size), h.t.below hb⟩

def NdOk (S : List Sym) (k : Nat) : Prop := ∀ (sa : Option Addr) (sn sc : Nat) (x : ByteArray × Int) (l : Fo) (a : Option Addr) (c : Nat) (w : World), nodesF l ≤ k → SigAt w sa sn S → TmAt w x a c l →
  Calls Tryz.prog 35 #[.slice sa sn sc, .agg #[.string x.1, .int .i64 x.2, .slice a (lenF l) c]] w fun e w' => e = .returned (.int .i64 (errT S x l)) ∧ Below w.heap.size w w'

set_option maxRecDepth 100000 in
set_option maxHeartbeats 1000000 in
theorem nodes_all (S : List Sym) : ∀ k, NdOk S k := by
  intro k
  induction k using Nat.strongRecOn with
  | _ k ih =>
    intro sa sn sc x l a c w hk hS hT
    have HS : Hid (SigAt w sa sn S) := hS
    have HT : Hid (TmAt w x a c l) := hT
    have IH : Hid (∀ j, j < k → NdOk S j) := ih
    have O0 : Hid (One w x a (lenF l) c (w.alloc (.cells #[.string x.1, .int .i64 x.2, .slice a (lenF l) c] 26))) := One.new _ _ _ _ _
    have hn : lenF l ≤ 9223372036854775807 := by have := hT.sizes.len; have := hT.sizes.cap; unfold maxLen at *; omega
    have hC := node_any S sa sn sc x a (lenF l) c _ (hS.below O0.out.low) hT.sizes.name
    clear hT ih hS
    go_enter Tryz.func35, Tryz.ntmps35
    go_wp2_with fail
    refine hC.mono ?_
    rintro e w2 ⟨rfl, hb⟩
    have O2 : Hid (One w x a (lenF l) c w2) := O0.out.below hb
    clear hC hb O0
    go_wp2
    go_loopw [5, 6] (fun er i wr => ∃ (j : Nat) (q : Int), j ≤ lenF l ∧ er = .int .i64 q ∧ i = .int .i64 j ∧ One w x a (lenF l) c wr ∧ errT S x l = thenC q (errF S (dropF j l))) (fun _ i _ => lenF l - (intOf i).toNat)
    case atStart => exact ⟨0, _, Nat.zero_le _, rfl, rfl, O2.out, by rw [drop_zero]; rfl⟩
    case round =>
      obtain ⟨j, q, hj, rfl, rfl, hO, her⟩ := hrel
      have t2 := hO.t.c2
      by_cases hlt : j < lenF l
      · cases hq : (q == 0)
        · have her' : Hid (errT S x l = q) := by show _ = _; rw [her]; unfold thenC; rw [if_neg (by simpa using hq)]
          clear her
          go_wp2
          go_ret
          exact ⟨by rw [her'.out]; rfl, hO.low⟩
        · obtain ⟨b1, o1, rfl, hk1⟩ := HT.out.args.get (by omega)
          obtain ⟨z, a1, c1, l1, kd⟩ := hk1.kid (k := j) hlt
          have kd' := kd.below hO.low
          obtain ⟨B1, O1, s1⟩ := kd.split
          have hq0 : q = 0 := by simpa using hq
          rw [s1, errF] at her
          have HER : Hid (errT S x l = thenC (errT S z l1) (errF S (dropF (j + 1) l))) := by show _ = _; rw [her, hq0]; rfl
          have p0 := kd'.name; have p1 := kd'.sym; have p2 := kd'.list
          have hC := IH.out (nodesF l1) (by have := kd.less; omega) sa sn sc z l1 a1 c1 wr (Nat.le_refl _) (HS.out.below hO.low) kd'.at_
          have HO : Hid (One w x (some ⟨b1, o1, none⟩) (lenF l) c wr) := hO
          clear kd kd' hk1 her s1 hO
          go_wp2_with fail
          refine hC.mono ?_
          rintro e w3 ⟨rfl, hb⟩
          have HO2 : Hid (One w x (some ⟨b1, o1, none⟩) (lenF l) c w3) := HO.out.below hb
          clear hC hb p0 p1 p2 t2
          go_wp2
          go_roundw
          case rel => exact ⟨j + 1, _, by omega, rfl, by go_num, HO2.out, HER.out⟩
          case measure => simp [intOf]; omega
      · have e1 : j = lenF l := by omega
        have her' : Hid (errT S x l = q) := by
          show _ = _
          rw [her, e1, drop_end, errF]; unfold thenC
          split
          · rename_i h; exact h.symm
          · rfl
        clear her
        go_wp2
        go_ret
        exact ⟨by rw [her'.out]; rfl, hO.low⟩

end Go.Proofs.YtfnfbljijkjkjaaGreat
