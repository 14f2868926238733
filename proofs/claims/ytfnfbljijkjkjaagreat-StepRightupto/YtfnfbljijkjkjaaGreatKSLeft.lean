import Derived.Test.YtfnfbljijkjkjaaGreatKSSame
/- What left and fits of a table answer. -/
namespace Go.Proofs.YtfnfbljijkjkjaaGreat
open Go.RowKit Go.Deep

def left0F : Fo → Int → Int
  | .nil, r => r
  | .node _ _ _ l s, r => if r < 0 then r else left0F s (left0F l (r - 1))
theorem left0F_bd : ∀ (F : Fo) (r : Int), -1 ≤ r → -1 ≤ left0F F r ∧ left0F F r ≤ r
  | .nil, r, h => ⟨h, Int.le_refl _⟩
  | .node _ _ x l s, r, h => by
    unfold left0F
    split
    · omega
    · have h1 := left0F_bd l (r - 1) (by omega)
      have h2 := left0F_bd s (left0F l (r - 1)) h1.1
      omega
theorem left0F_neg (F : Fo) (r : Int) (h : r < 0) : left0F F r = r := by
  cases F with
  | nil => rfl
  | node => unfold left0F; rw [if_pos h]
theorem left0F_eq : ∀ (F : Fo) (r : Int), 0 ≤ left0F F r → left0F F r = r - nodesF F
  | .nil, r, _ => by simp [left0F, nodesF]
  | .node _ _ x l s, r, h => by
    unfold left0F at h ⊢
    by_cases hr : r < 0
    · rw [if_pos hr] at h; omega
    · rw [if_neg hr] at h ⊢
      have h1 : 0 ≤ left0F l (r - 1) := by
        rcases Int.lt_or_le (left0F l (r - 1)) 0 with h2 | h2
        · rw [left0F_neg s _ h2] at h; omega
        · exact h2
      have e1 := left0F_eq l (r - 1) h1
      have e2 := left0F_eq s _ h
      rw [e2, e1]
      simp only [nodesF]
      omega
theorem left0F_nn : ∀ (F : Fo) (r : Int), (nodesF F : Int) ≤ r → 0 ≤ left0F F r
  | .nil, r, h => by simpa [left0F, nodesF] using h
  | .node _ _ x l s, r, h => by
    simp only [nodesF] at h
    unfold left0F
    rw [if_neg (by omega)]
    have h1 := left0F_nn l (r - 1) (by omega)
    have e1 := left0F_eq l (r - 1) h1
    exact left0F_nn s _ (by omega)
end Go.Proofs.YtfnfbljijkjkjaaGreat
