/- servedBy's table in memory. -/
import Derived.Test.YtdpdpjfnanjmgaaDoorSpV
import Derived.Test.YtdpdpjfnanjmgaaDoorSpX
import Derived.Test.YtdpdpjfnanjmgaaDoorSpB
import Derived.Test.YtdpdpjfnanjmgaaDoorSpM
namespace Go.Proofs.YtdpdpjfnanjmgaaDoor
open Go.RowKit Go.Shelf

def tabC (f : Nat → Nat → Nat) : List Value := (List.range 42).map fun i => .int .u32 ((f (i / 7) (i % 7) : Nat) : Int)
theorem tabC_len (f : Nat → Nat → Nat) : (tabC f).length = 42 := by simp [tabC]
theorem tabC_at (f : Nat → Nat → Nat) {i : Nat} (h : i < 42) : (tabC f)[i]? = some (.int .u32 ((f (i / 7) (i % 7) : Nat) : Int)) := by
  unfold tabC; rw [List.getElem?_map, List.getElem?_range h]; rfl
theorem tabC_one (f : Nat → Nat → Nat) : ∀ u ∈ tabC f, u.oneCell' = true := fun u hu => by
  obtain ⟨_, _, rfl⟩ := List.mem_map.1 hu; rfl
def TbAt (W : World) (b : Nat) (f : Nat → Nat → Nat) : Prop := W.heap[b]? = some (.cells (tabC f).toArray 55 (0, 0))
def updT (f : Nat → Nat → Nat) (i n v : Nat) : Nat → Nat → Nat := fun i' n' => if i' = i ∧ n' = n then v else f i' n'
theorem TbAt.get {W : World} {b : Nat} {f : Nat → Nat → Nat} (h : TbAt W b f) {i n : Nat} (hi : i < 6) (hn : n < 7) : W.cell? ⟨b, i * 7 + n, none⟩ = some (.int .u32 ((f i n : Nat) : Int)) := cell_box h (by
  rw [List.getElem?_toArray, tabC_at f (by omega), show (i * 7 + n) / 7 = i by omega, show (i * 7 + n) % 7 = n by omega])
theorem TbAt.fz {W : World} {b : Nat} {f : Nat → Nat → Nat} (h : TbAt W b f) (i : Nat) : W.frozen? ⟨b, i, none⟩ = false := by
  unfold TbAt at h; simp [World.frozen?, h]
theorem TbAt.put {W : World} {b : Nat} {f : Nat → Nat → Nat} (h : TbAt W b f) {i n : Nat} (hn : n < 7) (v : Nat) : TbAt (W.setCell ⟨b, i * 7 + n, none⟩ (.int .u32 (v : Int))) b (updT f i n v) := by
  have h1 := block_set h (k := i * 7 + n) (.int .u32 (v : Int))
  unfold TbAt
  rw [h1]
  congr 2
  refine Array.ext_getElem? fun q => ?_
  by_cases hq : q < 42
  · rw [Array.getElem?_setIfInBounds, List.getElem?_toArray, List.getElem?_toArray, tabC_at _ hq, tabC_at _ hq, List.size_toArray, tabC_len]
    unfold updT
    by_cases e : i * 7 + n = q
    · subst e
      rw [if_pos rfl, if_pos hq, if_pos (by omega)]
    · rw [if_neg e, if_neg (by omega)]
  · rw [Array.getElem?_eq_none (by simp only [Array.size_setIfInBounds, List.size_toArray, tabC_len]; omega), Array.getElem?_eq_none (by simp only [List.size_toArray, tabC_len]; omega)]
theorem TbAt.ext {W : World} {b : Nat} {f g : Nat → Nat → Nat} (h : TbAt W b f) (hfg : ∀ i n, i < 6 → n < 7 → f i n = g i n) : TbAt W b g := by
  unfold TbAt at h ⊢
  rw [h]
  congr 2
  unfold tabC
  congr 1
  refine List.map_congr_left fun q hq => ?_
  rw [List.mem_range] at hq
  rw [hfg _ _ (by omega) (by omega)]
/-- The table when so many levels are made. -/
def lvl (k : List Nat) (j : Nat) : Nat → Nat → Nat := fun i n => if k.length - j ≤ i ∧ i ≤ k.length then tabN k i n else 0
/-- A level under way. -/
def mid (k : List Nat) (i n : Nat) : Nat → Nat → Nat := fun i' n' => if i' = i then (if n' < n then tabN k i n' else 0) else if i < i' ∧ i' ≤ k.length then tabN k i' n' else 0
theorem accR_stop {g : Nat → Nat} {c i n r : Nat} (h : n < (r + 1) * c) : ∀ d, accR g c i n (r + d) = accR g c i n r
  | 0 => rfl
  | d + 1 => by
    rw [← Nat.add_assoc, accR, if_neg, accR_stop h d]
    have : (r + 1) * c ≤ (r + d + 1) * c := Nat.mul_le_mul_right _ (by omega)
    omega
theorem tab_acc {k : List Nat} {i n : Nat} (hi : i < k.length) : tabN k i n = accR (tabN k (i + 1)) (k.getD i 0) i n n := by
  unfold tabN
  rw [show k.length - i = k.length - (i + 1) + 1 by omega, fT, show k.length - (k.length - (i + 1) + 1) = i by omega]
end Go.Proofs.YtdpdpjfnanjmgaaDoor
