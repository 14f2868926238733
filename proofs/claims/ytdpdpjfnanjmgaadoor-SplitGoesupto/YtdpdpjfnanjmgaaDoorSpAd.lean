/- Plainly: where may or adds says no, there is no way. -/
import Derived.Test.YtdpdpjfnanjmgaaDoorSpR
import Derived.Test.YtdpdpjfnanjmgaaDoorSpU
namespace Go.Proofs.YtdpdpjfnanjmgaaDoor

theorem sumR_ge {j : Nat} : ∀ {ks : List Nat} {R : List (List Nat)} {i : Nat} (h1 : i < ks.length) (h2 : i < R.length), ks[i] * R[i].getD j 0 ≤ sumR j ks R
  | k :: ks, r :: R, 0, _, _ => by rw [sumR]; exact Nat.le_add_right _ _
  | k :: ks, r :: R, i + 1, h1, h2 => by
    rw [sumR]
    have := sumR_ge (j := j) (ks := ks) (R := R) (i := i) (by simpa using h1) (by simpa using h2)
    simp only [List.getElem_cons_succ]
    omega
  | [], _, _, h1, _ => by simp at h1
  | _ :: _, [], _, _, h2 => by simp at h2
theorem adds_sumR {k : List Nat} (j : Nat) : ∀ (ks : List Nat) (R : List (List Nat)), (∀ x ∈ ks, x ∈ k) → Adds k (sumR j ks R)
  | [], _, _ => by unfold sumR; exact .zero
  | _ :: _, [], _ => by unfold sumR; exact .zero
  | x :: ks, r :: R, h => by
    rw [sumR]
    exact adds_sum _ (h x (by simp)) (adds_sumR j ks R fun y hy => h y (by simp [hy]))
theorem WW_adds {e : Bool} {ks left : List Nat} {j : Nat} (hk : ∀ x ∈ ks, 1 ≤ x) (hj : j < left.length) (h : ¬ Adds ks (left.getD j 0)) : WW e ks left = [] := by
  refine List.eq_nil_iff_forall_not_mem.2 fun R hR => h ?_
  obtain ⟨_, _, h3⟩ := (WW_mem ks left hk R).1 hR
  rw [← h3 j hj]
  exact adds_sumR j ks R fun x hx => hx
theorem WW_may {ks left : List Nat} (hk : ∀ x ∈ ks, 1 ≤ x) (h : mayB (up left) (up ks) = false) : WW false ks left = [] := by
  refine List.eq_nil_iff_forall_not_mem.2 fun R hR => ?_
  obtain ⟨h1, h2, h3⟩ := (WW_mem ks left hk R).1 hR
  unfold mayB at h
  obtain ⟨x, hx, hno⟩ := List.all_eq_false.1 h
  unfold up at hx
  obtain ⟨y, hy, rfl⟩ := List.mem_map.1 hx
  obtain ⟨i, hi, rfl⟩ := List.getElem_of_mem hy
  have hiR : i < R.length := by omega
  obtain ⟨g1, g2⟩ := h2 R[i] (List.getElem_mem hiR)
  have hsome : ∃ j, j < R[i].length ∧ R[i].getD j 0 ≠ 0 := by
    rw [Bool.false_or, Bool.not_eq_true'] at g2
    obtain ⟨v, hv, hne⟩ := List.all_eq_false.1 g2
    obtain ⟨j, hj, rfl⟩ := List.getElem_of_mem hv
    exact ⟨j, hj, by rw [getD_in hj]; simpa using hne⟩
  obtain ⟨j, hj, hne⟩ := hsome
  rw [g1] at hj
  have h4 := sumR_ge (j := j) hi hiR
  rw [h3 j hj] at h4
  have h5 : ks[i] * 1 ≤ ks[i] * R[i].getD j 0 := Nat.mul_le_mul_left _ (by omega)
  refine hno (List.any_eq_true.2 ⟨((left.getD j 0 : Nat) : Int), ?_, ?_⟩)
  · unfold up
    exact List.mem_map.2 ⟨left.getD j 0, by rw [getD_in hj]; exact List.getElem_mem hj, rfl⟩
  · simp only [decide_eq_true_eq]
    omega
end Go.Proofs.YtdpdpjfnanjmgaaDoor
