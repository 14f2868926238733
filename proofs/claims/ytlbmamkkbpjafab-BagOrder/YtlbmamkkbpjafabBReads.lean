/- What reads answers of a bag and of the document's bag that hold the same. -/
import Derived.Test.YtlbmamkkbpjafabBPl
namespace Go.Proofs.Ytlbmamkkbpjafab
open Go.RowKit Go.Deep

theorem sumN_cons (y : It) (r : List It) : sumN (y :: r) = y.2 + sumN r := rfl
theorem sumN_app (a b : List It) : sumN (a ++ b) = sumN a + sumN b := by
  induction a with
  | nil => show sumN b = 0 + sumN b; omega
  | cons y r ih => rw [List.cons_append, sumN_cons, sumN_cons, ih]; omega
theorem sumN_nn : ∀ (l : List It), (∀ y ∈ l, 1 ≤ y.2) → 0 ≤ sumN l
  | [], _ => Int.le_refl _
  | y :: r, h => by
    have h1 := sumN_nn r (fun z hz => h z (List.mem_cons_of_mem _ hz))
    have h2 := h y List.mem_cons_self
    rw [sumN_cons]
    omega
theorem sumN_bd (l : List It) (h : ∀ y ∈ l, 1 ≤ y.2) (k : Nat) : 0 ≤ sumN (l.take k) ∧ sumN (l.take k) ≤ sumN l := by
  have h1 := sumN_nn (l.take k) (fun y hy => h y (List.mem_of_mem_take hy))
  have h2 := sumN_nn (l.drop k) (fun y hy => h y (List.mem_of_mem_drop hy))
  have h3 := sumN_app (l.take k) (l.drop k)
  rw [List.take_append_drop] at h3
  omega
theorem sumN_le (l : List It) (h : ∀ y ∈ l, 1 ≤ y.2) (i : Nat) (hi : i < l.length) : 1 ≤ l[i].2 ∧ l[i].2 ≤ sumN l := by
  have h1 := sumN_bd l h i
  have h2 := sumN_bd l h (i + 1)
  rw [sumN_take l i hi] at h2
  exact ⟨h _ (List.getElem_mem hi), by omega⟩
theorem cntK_nth {l : List It} (hs : Srt l) (i : Nat) (hi : i < l.length) : posK l[i].1.1 l = i ∧ thereB l[i].1.1 l = true ∧ cntK l[i].1.1 l = l[i].2 := by
  have hp : posK l[i].1.1 l = i := pos_eq (Nat.le_of_lt hi) (fun j hj hji => hs j i hj hi hji) (fun _ => Int.le_refl _)
  have ht : thereB l[i].1.1 l = true := by
    unfold thereB
    rw [hp, List.getElem?_eq_getElem hi]
    simp
  refine ⟨hp, ht, ?_⟩
  unfold cntK
  rw [if_pos ht, hp, List.getElem?_eq_getElem hi]
theorem owns31_below {W W' : World} {base n : Nat} {v : Value} {xs : List Value} (h : W.ownsRow base 26 2 v n xs) (hb : Below W.heap.size W W') : W'.ownsRow base 26 2 v n xs :=
  ⟨h.1, h.2.imp id (fun ⟨g, cap, cur, h1, h2, h3, h4⟩ => ⟨g, cap, cur, h1, h2, (hb.block g (Array.getElem?_eq_some_iff.1 h3).1).trans h3, h4⟩)⟩
theorem owns31_far {W : World} {base n g i : Nat} {v : Value} {xs : List Value} (h : W.ownsRow base 26 2 v n xs) (hg : v.ownBlock ≠ some g) (u : Value) : (W.setCell ⟨g, i, none⟩ u).ownsRow base 26 2 v n xs :=
  ⟨h.1, h.2.imp id (fun ⟨g', cap, cur, h1, h2, h3, h4⟩ => ⟨g', cap, cur, h1, h2, (set_far (fun e => hg (by rw [h1, ← e]; rfl)) u).trans h3, h4⟩)⟩
theorem thAll_drop : ∀ (l : List Th) (i : Nat), (thAll l).drop (i * 2) = thAll (l.drop i)
  | l, 0 => by simp
  | [], i + 1 => by simp [thAll]
  | x :: r, i + 1 => by
    show (thCells x ++ thAll r).drop ((i + 1) * 2) = thAll (r.drop i)
    rw [← thAll_drop r i, List.drop_append, List.drop_eq_nil_of_le (by simp [thCells]; omega), List.nil_append]
    congr 1
    show (i + 1) * 2 - 2 = _
    omega
theorem thAll_at (l : List Th) (i : Nat) (hi : i < l.length) (k : Nat) (hk : k < 2) : (thAll l)[i * 2 + k]? = (thCells l[i])[k]? := by
  rw [← List.getElem?_drop, thAll_drop, List.drop_eq_getElem_cons hi]
  show (thCells l[i] ++ thAll _)[k]? = _
  rw [List.getElem?_append_left hk]
end Go.Proofs.Ytlbmamkkbpjafab
