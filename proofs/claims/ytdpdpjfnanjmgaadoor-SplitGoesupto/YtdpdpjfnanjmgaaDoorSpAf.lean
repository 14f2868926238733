/- Plainly: the tally, set by set. -/
import Derived.Test.YtdpdpjfnanjmgaaDoorSpC
namespace Go.Proofs.YtdpdpjfnanjmgaaDoor

/-- The sets below s, each joined with g. -/
def joinedTo (A : List Nat) (s g : Nat) : List Nat := (A.filter fun a => decide (a < s)).map (· ||| g)
theorem joinedTo_zero (A : List Nat) (g : Nat) : joinedTo A 0 g = [] := by
  unfold joinedTo
  rw [List.filter_eq_nil_iff.2 (fun a _ => by simp)]
  rfl
theorem joinedTo_all {A : List Nat} {s : Nat} (g : Nat) (h : ∀ a ∈ A, a < s) : joinedTo A s g = A.map (· ||| g) := by
  unfold joinedTo
  rw [List.filter_eq_self.2 (fun a ha => by simpa using h a ha)]
theorem joinedTo_count (s g x : Nat) : ∀ A : List Nat, (joinedTo A (s + 1) g).count x = (joinedTo A s g).count x + if s ||| g = x then A.count s else 0
  | [] => by simp [joinedTo]
  | a :: A => by
    have ih := joinedTo_count s g x A
    unfold joinedTo at ih ⊢
    rw [List.filter_cons, List.filter_cons, List.count_cons]
    by_cases h1 : a < s
    · rw [if_pos (by simp; omega), if_pos (by simpa using h1), List.map_cons, List.map_cons, List.count_cons, List.count_cons, ih, if_neg (show ¬ (a == s) = true by simp; omega)]
      split <;> split <;> omega
    · by_cases h2 : a = s
      · subst h2
        rw [if_pos (by simp), if_neg (by simp), List.map_cons, List.count_cons, ih]
        simp only [beq_iff_eq, if_true]
        split <;> omega
      · rw [if_neg (by simp; omega), if_neg (by simpa using h1), ih, if_neg (show ¬ (a == s) = true by simpa using h2)]
        simp
theorem joinedTo_len (A : List Nat) (s g : Nat) : (joinedTo A s g).length ≤ A.length := by
  unfold joinedTo
  rw [List.length_map]
  exact List.length_filter_le _ _
/-- The tally after some ways. -/
def afterN (k : List Nat) (n i : Nat) (A : List Nat) : List Nat := ((colsN n k).take i).flatMap fun c => A.map (· ||| givenN c)
theorem afterN_succ {k : List Nat} {n i : Nat} {c : List Nat} (h : (colsN n k)[i]? = some c) (A : List Nat) : afterN k n (i + 1) A = afterN k n i A ++ A.map (· ||| givenN c) := by
  obtain ⟨hi, rfl⟩ := List.getElem?_eq_some_iff.1 h
  unfold afterN
  rw [List.take_succ_eq_append_getElem hi, List.flatMap_append]
  simp
theorem afterN_all (k : List Nat) (n : Nat) (A : List Nat) : afterN k n (colsN n k).length A = (colsN n k).flatMap fun c => A.map (· ||| givenN c) := by
  unfold afterN
  rw [List.take_length]
theorem afterN_len (k : List Nat) (n i : Nat) (A : List Nat) : (afterN k n i A).length ≤ i * A.length := by
  unfold afterN
  have h1 := flat_le (l := (colsN n k).take i) (f := fun c => A.map (· ||| givenN c)) (b := A.length) fun c _ => by simp
  refine Nat.le_trans h1 (Nat.mul_le_mul_right _ ?_)
  rw [List.length_take]; omega
theorem count_le_len (A : List Nat) (x : Nat) : A.count x ≤ A.length := List.count_le_length
/-- Who gets something of a column. -/
theorem given_lt {c : List Nat} {T : Nat} (h : c.length ≤ T) : givenN c < 2 ^ T := by
  refine Nat.lt_of_not_le fun hle => ?_
  have : ∃ s, T ≤ s ∧ (givenN c).testBit s = true := by
    obtain ⟨s, h1, h2⟩ := Nat.exists_ge_and_testBit_of_ge_two_pow hle
    exact ⟨s, h1, h2⟩
  obtain ⟨s, h1, h2⟩ := this
  rw [given_bit, List.getD_eq_getElem?_getD, List.getElem?_eq_none (by omega)] at h2
  simp at h2
/-- The first so many of a column. -/
theorem given_take {c : List Nat} {i : Nat} (h : i < c.length) : givenN (c.take (i + 1)) = if 0 < c[i] then givenN (c.take i) ||| 2 ^ i else givenN (c.take i) := by
  refine Nat.eq_of_testBit_eq fun s => ?_
  have e1 : ∀ (l : List Nat) (s : Nat), (givenN l).testBit s = decide (0 < l.getD s 0) := fun l s => by
    have := given_bit l s
    by_cases h : 0 < l.getD s 0
    · rw [this.2 h, decide_eq_true h]
    · rw [Bool.eq_false_iff.2 (fun hh => h (this.1 hh)), decide_eq_false h]
  have e2 : ∀ n, (c.take n).getD s 0 = if s < n then c.getD s 0 else 0 := fun n => by
    rw [List.getD_eq_getElem?_getD, List.getElem?_take]
    split
    · rw [List.getD_eq_getElem?_getD]
    · rfl
  split
  next h0 =>
    rw [Nat.testBit_or, e1, e1, e2, e2, Nat.testBit_two_pow]
    by_cases hs : s = i
    · subst hs
      rw [if_pos (by omega), if_neg (by omega), List.getD_eq_getElem?_getD, List.getElem?_eq_getElem h]
      simp [h0]
    · rw [show decide (i = s) = false from decide_eq_false (by omega), Bool.or_false]
      by_cases h3 : s < i
      · rw [if_pos (by omega), if_pos h3]
      · rw [if_neg (by omega), if_neg h3]
  next h0 =>
    rw [e1, e1, e2, e2]
    by_cases hs : s = i
    · subst hs
      rw [if_pos (by omega), if_neg (by omega), List.getD_eq_getElem?_getD, List.getElem?_eq_getElem h]
      simp; omega
    · by_cases h3 : s < i
      · rw [if_pos (by omega), if_pos h3]
      · rw [if_neg (by omega), if_neg h3]
/-- Sets of takers stay such. -/
theorem after_lt {k : List Nat} {n i : Nat} {A : List Nat} (hk : ∀ x ∈ k, 1 ≤ x) (hA : ∀ a ∈ A, a < 2 ^ 5) (hT : k.length ≤ 5) : ∀ a ∈ afterN k n i A, a < 2 ^ 5 := by
  intro a ha
  obtain ⟨c, hc, h2⟩ := List.mem_flatMap.1 ha
  obtain ⟨b, hb, rfl⟩ := List.mem_map.1 h2
  have h3 := ((cols_mem hk c).1 (List.mem_of_mem_take hc)).1
  exact Nat.or_lt_two_pow (hA b hb) (given_lt (by omega))
end Go.Proofs.YtdpdpjfnanjmgaaDoor
