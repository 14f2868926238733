/- SplitKinds, plainly: products that are cut off, ways in which nobody has nothing. -/
import Derived.Test.YtdpdpjfnanjmgaaDoorSpAl
namespace Go.Proofs.YtdpdpjfnanjmgaaDoor

theorem cut_mul (P c : Nat) : min 5000 (min 5000 P * min c 5000) = min 5000 (P * c) := by
  by_cases h1 : P ≤ 5000
  · rw [Nat.min_eq_right h1]
    by_cases h2 : c ≤ 5000
    · rw [Nat.min_eq_left h2]
    · rw [Nat.min_eq_right (by omega : 5000 ≤ c)]
      rcases Nat.eq_zero_or_pos P with h0 | h0
      · subst h0; simp
      · have h3 : 5000 ≤ P * 5000 := Nat.le_mul_of_pos_left _ h0
        have h4 : P * 5000 ≤ P * c := Nat.mul_le_mul_left _ (by omega)
        omega
  · rw [Nat.min_eq_left (by omega : 5000 ≤ P)]
    rcases Nat.eq_zero_or_pos c with h0 | h0
    · subst h0; simp
    · have h3 : 5000 ≤ 5000 * min c 5000 := Nat.le_mul_of_pos_right _ (by omega)
      have h4 : P ≤ P * c := Nat.le_mul_of_pos_right _ h0
      omega
/-- The product of the first so many kinds' counts. -/
def prodTo (k m : List Nat) : Nat → Nat
  | 0 => 1
  | j + 1 => prodTo k m j * (waysF [m.getD j 0] k true).length
theorem prod_app (f : Nat → Nat) : ∀ (a : List Nat) (x : Nat), ((a ++ [x]).map f).foldr (· * ·) 1 = (a.map f).foldr (· * ·) 1 * f x
  | [], x => by simp
  | y :: a, x => by
    have := prod_app f a x
    simp only [List.cons_append, List.map_cons, List.foldr_cons]
    rw [this, Nat.mul_assoc]
theorem prodTo_eq (k m : List Nat) : ∀ j, j ≤ m.length → prodTo k m j = ((m.take j).map fun n => (waysF [n] k true).length).foldr (· * ·) 1
  | 0, _ => by simp [prodTo]
  | j + 1, h => by
    rw [prodTo, prodTo_eq k m j (by omega), List.take_succ_eq_append_getElem (by omega : j < m.length), prod_app, List.getD_eq_getElem?_getD, List.getElem?_eq_getElem (by omega : j < m.length)]
    rfl
theorem prodTo_all {k m : List Nat} (hk : ∀ x ∈ k, 1 ≤ x) : (waysF m k true).length = prodTo k m m.length := by
  rw [prodTo_eq k m _ (Nat.le_refl _), List.take_length]
  exact ways_prod hk
/-- Nobody of the first so many has nothing. -/
def okTo (K : Nat) (v : List Nat) : Nat → Bool
  | 0 => true
  | q + 1 => okTo K v q && decide (0 < hasTo K q v K)
theorem hasTo_none {K i : Nat} {v : List Nat} : ∀ {n : Nat}, (∀ j < n, v.getD (i * K + j) 0 = 0) → hasTo K i v n = 0
  | 0, _ => rfl
  | n + 1, h => by rw [hasTo, hasTo_none (n := n) fun j hj => h j (by omega), h n (by omega)]
theorem okTo_all {K T : Nat} {v : List Nat} (hv : v.length = K * T) : ∀ q, q ≤ T → okTo K v q = ((rowsN K T v).take q).all fun r => !r.all (· == 0)
  | 0, _ => rfl
  | q + 1, hq => by
    have hl : q < (rowsN K T v).length := by rw [rowsN_len]; omega
    have h1 := rowsN_at T v hv q (by omega)
    rw [List.getD_eq_getElem?_getD, List.getElem?_eq_getElem hl] at h1
    have h2 : (rowsN K T v)[q] = (List.range K).map fun j => v.getD (q * K + j) 0 := h1
    rw [okTo, okTo_all hv q (by omega), List.take_succ_eq_append_getElem hl, List.all_append, List.all_cons, List.all_nil, Bool.and_true, h2]
    congr 1
    rw [Bool.eq_iff_iff, decide_eq_true_eq, Bool.not_eq_true', Bool.eq_false_iff, Ne, List.all_eq_true, Nat.pos_iff_ne_zero, Ne]
    refine not_congr ?_
    constructor
    · intro h x hx
      obtain ⟨j, hj, rfl⟩ := List.mem_map.1 hx
      rw [List.mem_range] at hj
      simpa using hasTo_zero h j hj
    · intro h
      refine hasTo_none fun j hj => ?_
      simpa using h _ (List.mem_map.2 ⟨j, List.mem_range.2 hj, rfl⟩)
/-- How many of the first so many ways give everybody something. -/
def fullTo (m k : List Nat) (i : Nat) : Nat := ((waysF m k true).take i).countP fun v => okTo m.length v k.length
theorem fullTo_succ {m k v : List Nat} {i : Nat} (h : (waysF m k true)[i]? = some v) : fullTo m k (i + 1) = fullTo m k i + if okTo m.length v k.length then 1 else 0 := by
  obtain ⟨hi, rfl⟩ := List.getElem?_eq_some_iff.1 h
  unfold fullTo
  rw [List.take_succ_eq_append_getElem hi, List.countP_append, List.countP_cons, List.countP_nil, Nat.zero_add]
theorem fullTo_le (m k : List Nat) (i : Nat) : fullTo m k i ≤ i := by
  unfold fullTo
  refine Nat.le_trans List.countP_le_length ?_
  rw [List.length_take]; omega
theorem fullTo_all {m k : List Nat} (hk : ∀ x ∈ k, 1 ≤ x) : fullTo m k (waysF m k true).length = (waysF m k false).length := by
  unfold fullTo
  rw [List.take_length, ← ways_full hk, ways_rows hk, List.countP_map]
  refine List.countP_congr fun v hv => ?_
  rw [okTo_all (way_len hk hv) _ (Nat.le_refl _)]
  rw [List.take_of_length_le (by rw [rowsN_len]; exact Nat.le_refl _)]
  rfl
end Go.Proofs.YtdpdpjfnanjmgaaDoor
