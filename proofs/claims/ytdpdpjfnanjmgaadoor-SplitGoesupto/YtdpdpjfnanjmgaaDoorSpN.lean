/- pushNext. -/
import Derived.Test.YtdpdpjfnanjmgaaDoorSpE
import Derived.Deep.WholeRow
import Derived.StillTailTactics
namespace Go.Proofs.YtdpdpjfnanjmgaaDoor
open Go.RowKit Go.Shelf

theorem step_store_new {P : Program} {ops : Array Oper} {o : Oper} {a : Act} {w0 : World} {K : Act → World → Prop} {Q : Exit → Act → World → Prop} {E : Prop} (hgd : o.guard = none) (ty : TypeId) (x y : Operand)
    (ho : o.op = .store ty x y) (c c' : Array Value) (hx : a.eval x = .pointer (some ⟨w0.heap.size, 0, none⟩)) (hy : a.eval y = .agg c') (hi : (P.info? ty).map (·.size) = some c'.size) (hs : c.size = c'.size) (h1 : c'.all (·.oneCell') = true)
    (h : K (a.put o.dst undef) (w0.alloc (.cells c' ty))) : if Region.wanted o (yielded ops a.tmps) = true then Oper.wp P o a (w0.alloc (.cells c ty)) K Q else E := by
  have hw : Region.wanted o (yielded ops a.tmps) = true := by simp [Region.wanted, hgd]
  rw [if_pos hw]
  unfold Oper.wp execOp
  simp only [ho, hx, hy, Instr.storeAt, Instr.sureAddr, Sem.run_bind, Sem.run_pure, Result.andThen_ok, run_storeVar_new w0 ty c c' hi hs h1]
  exact h
/-- A deal with its next number. -/
def nextD (K : Nat) (k : List Nat) (d : Dl) (n : Nat) : Dl := ⟨d.v ++ [n], d.left.set (d.v.length % K) (d.left.getD (d.v.length % K) 0 - n * k.getD (d.v.length / K) 0), if 0 < n then d.has ||| 2 ^ (d.v.length / K) else d.has⟩
/-- How often the next number may be. -/
def topN (K : Nat) (k : List Nat) (d : Dl) : Nat := d.left.getD (d.v.length % K) 0 / k.getD (d.v.length / K) 0
/-- The stack behind so many of them, the greatest first. -/
def pushs (f : Nat → Nat → Nat) (K T : Nat) (k : List Nat) (st : List Dl) (d : Dl) : Nat → List Dl
  | 0 => st
  | i + 1 => pushd f K T (pushs f K T k st d i) (nextD K k d (topN K k d - i))
theorem pushd_len (f : Nat → Nat → Nat) (K T : Nat) (st : List Dl) (d : Dl) : (pushd f K T st d).length ≤ st.length + 1 := by
  unfold pushd; split <;> simp
theorem pushs_len (f : Nat → Nat → Nat) (K T : Nat) (k : List Nat) (st : List Dl) (d : Dl) : ∀ i, (pushs f K T k st d i).length ≤ st.length + i
  | 0 => Nat.le_refl _
  | i + 1 => by have := pushd_len f K T (pushs f K T k st d i) (nextD K k d (topN K k d - i)); have := pushs_len f K T k st d i; rw [pushs]; omega
theorem dC_at (d : Dl) {i : Nat} (h : i < 32) : (dC d)[i]? = some (if i < 25 then iV (d.v.getD i 0) else if i = 25 then iV d.v.length else if i = 31 then iV d.has else iV (d.left.getD (i - 26) 0)) := by
  by_cases h1 : i < 25
  · rw [if_pos h1]; exact dC_part d h1
  · rw [if_neg h1]
    by_cases h2 : i = 25
    · subst h2; rw [if_pos rfl]; exact dC_made d
    · rw [if_neg h2]
      by_cases h3 : i = 31
      · subst h3; rw [if_pos rfl]; exact dC_has d
      · rw [if_neg h3, show i = 26 + (i - 26) by omega, dC_left d (by omega), show 26 + (i - 26) - 26 = i - 26 by omega]
theorem getD_app (l : List Nat) (n i : Nat) : (l ++ [n]).getD i 0 = if i = l.length then n else l.getD i 0 := by
  rw [List.getD_eq_getElem?_getD, List.getD_eq_getElem?_getD]
  by_cases h : i = l.length
  · subst h; simp
  · rw [if_neg h]
    by_cases h2 : i < l.length
    · rw [List.getElem?_append_left h2]
    · rw [List.getElem?_append_right (by omega), List.getElem?_eq_none (by simp; omega), List.getElem?_eq_none (by omega)]
theorem dC_next (d : Dl) (n j l h : Nat) (hp : d.v.length < 25) (hj : j < d.left.length) (hl : d.left.length ≤ 5) :
    ((((dC d).toArray.setIfInBounds d.v.length (iV n)).setIfInBounds 25 (iV (d.v.length + 1))).setIfInBounds (26 + j) (iV l)).setIfInBounds 31 (iV h) = (dC ⟨d.v ++ [n], d.left.set j l, h⟩).toArray := by
  refine Array.ext_getElem? fun i => ?_
  by_cases hi : i < 32
  · simp only [Array.getElem?_setIfInBounds, Array.size_setIfInBounds, List.size_toArray, dC_len, List.getElem?_toArray]
    rw [dC_at ⟨d.v ++ [n], d.left.set j l, h⟩ hi, dC_at d hi]
    show _ = some (if i < 25 then iV ((d.v ++ [n]).getD i 0) else if i = 25 then iV (d.v ++ [n]).length else if i = 31 then iV h else iV ((d.left.set j l).getD (i - 26) 0))
    by_cases e31 : 31 = i
    · subst e31; simp
    · rw [if_neg e31]
      by_cases ej : 26 + j = i
      · subst ej
        rw [if_pos rfl, if_pos (by omega), if_neg (by omega), if_neg (by omega), if_neg (by omega), show 26 + j - 26 = j by omega, getD_set hj, if_pos rfl]
      · rw [if_neg ej]
        by_cases e25 : 25 = i
        · subst e25; simp
        · rw [if_neg e25]
          by_cases ep : d.v.length = i
          · subst ep
            rw [if_pos rfl, if_pos (by omega), if_pos hp, getD_app, if_pos rfl]
          · rw [if_neg ep]
            by_cases h25 : i < 25
            · rw [if_pos h25, if_pos h25, getD_app, if_neg (fun e => ep e.symm)]
            · have f1 : ¬ i = 25 := fun e => e25 e.symm
              have f2 : ¬ i = 31 := fun e => e31 e.symm
              rw [if_neg h25, if_neg h25, if_neg f1, if_neg f1, if_neg f2, if_neg f2, getD_set hj, if_neg (by omega)]
  · rw [Array.getElem?_eq_none (by simp only [Array.size_setIfInBounds, List.size_toArray, dC_len]; omega), Array.getElem?_eq_none (by simp only [List.size_toArray, dC_len]; omega)]
theorem dC_next0 (d : Dl) (j l : Nat) (hp : d.v.length < 25) (hj : j < d.left.length) (hl : d.left.length ≤ 5) :
    (((dC d).toArray.setIfInBounds d.v.length (iV 0)).setIfInBounds 25 (iV (d.v.length + 1))).setIfInBounds (26 + j) (iV l) = (dC ⟨d.v ++ [0], d.left.set j l, d.has⟩).toArray := by
  have h := dC_next d 0 j l d.has hp hj hl
  rw [← h]
  refine Array.ext_getElem? fun i => ?_
  rw [Array.getElem?_setIfInBounds (i := 31)]
  by_cases e31 : 31 = i
  · subst e31
    simp only [Array.getElem?_setIfInBounds, Array.size_setIfInBounds, List.size_toArray, dC_len, List.getElem?_toArray, dC_has]
    rw [if_neg (by omega), if_neg (by omega), if_neg (by omega)]
    simp
  · rw [if_neg e31]
end Go.Proofs.YtdpdpjfnanjmgaaDoor
