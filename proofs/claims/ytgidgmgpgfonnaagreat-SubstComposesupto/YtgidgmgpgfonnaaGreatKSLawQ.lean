import Derived.Test.YtgidgmgpgfonnaaGreatKSCompF
/- Plain: what SubstLaws asks of Apply. -/
namespace Go.Proofs.YtgidgmgpgfonnaaGreat
open Go.RowKit Go.Deep

theorem wt_mono {g k : ByteArray → Tn} (h : ∀ s, sizeT (g s) ≤ sizeT (k s)) : ∀ (n : Nat) (t : Tn), nodesF t.2 ≤ n → wtT g t ≤ wtT k t := by
  intro n
  induction n using Nat.strongRecOn with
  | _ n ih =>
    intro t hn
    by_cases hx : noName t.1.1 = true
    · rw [wt_node g hx, wt_node k hx]
      have : ∀ l : List Tn, (∀ c ∈ l, c ∈ kidsL t.2) → wts g l ≤ wts k l := fun l => by
        induction l with
        | nil => intro _; exact Nat.le_refl _
        | cons c r ihl =>
          intro hc
          rw [wts_cons, wts_cons]
          have h1 := kid_less (hc c (by simp))
          have h2 := ih (nodesF c.2) (by omega) c (Nat.le_refl _)
          have h3 := ihl (fun c' hc' => hc c' (by simp [hc']))
          omega
      have := this (kidsL t.2) (fun _ h => h)
      omega
    · unfold wtT subN
      rw [if_neg hx, if_neg hx]
      exact h _
theorem getN_nil (s : ByteArray) : getN [] s = ((s, 0), .nil) := rfl
theorem subF_id {S : Sg} {ar : Int → Nat} : ∀ F : Fo, RightF S ar F → subF (getN []) F = F
  | .nil, _ => rfl
  | .node B O x l r, h => by
    obtain ⟨⟨h1, h2⟩, h3⟩ := h
    unfold subF
    rw [subF_id l h2, subF_id r h3]
    by_cases hx : noName x.1 = true
    · rw [if_pos hx]
    · rw [if_neg hx]
      unfold nodeOk at h1
      rw [if_pos (by simpa using hx)] at h1
      have hl := len_nil h1.2
      subst hl
      have hx2 : x = (x.1, 0) := Prod.ext rfl h1.1
      rw [getN_nil]
      simp only
      rw [← hx2]
theorem sub_id {S : Sg} {ar : Int → Nat} {t : Tn} (h : RightT S ar t) : subN (getN []) t = t := by
  unfold subN
  by_cases hx : noName t.1.1 = true
  · rw [if_pos hx, subF_id t.2 h.2]
  · rw [if_neg hx]
    have h1 := h.1
    unfold nodeOk at h1
    rw [if_pos (by simpa using hx)] at h1
    have hl := len_nil h1.2
    obtain ⟨⟨s, i⟩, l⟩ := t
    dsimp only at hl h1
    rw [hl, h1.1]
    rfl
/-- Apply of binds with unlike names, right terms, to a right term: too great just if it is, else the canonical form. -/
theorem apply_right {sg : List Sym} {bs : List Bn} {x : ByteArray × Int} {l : Fo} {t : Tn} {e : Int} (hOk : (sgOf sg).Ok (arAt sg)) (hn : (bs.map (·.1)).Nodup) (hr : ∀ b ∈ bs, RightT (sgOf sg) (arAt sg) b.2) (ht : RightT (sgOf sg) (arAt sg) (x, l)) (h : (leftN (lkB bs) x l 400 < 0 ∧ t = zeroN ∧ e = 73) ∨ (0 ≤ leftN (lkB bs) x l 400 ∧ e = 0 ∧ CanR sg (putN (lkB bs) x l) t)) :
    (400 < sizeT (subN (getN bs) (x, l)) ∧ e = 73) ∨ (sizeT (subN (getN bs) (x, l)) ≤ 400 ∧ e = 0 ∧ t = canonT (sgOf sg) (subN (getN bs) (x, l))) := by
  have e1 : putN (lkB bs) x l = subN (getN bs) (x, l) := (putN_pin hn x l ht).trans (pinN_sub bs (x, l))
  have hi := leftN_iff (lkB bs) x l 400
  rw [e1] at hi
  have hs : sizeT (subN (getN bs) (x, l)) = nodesF (subN (getN bs) (x, l)).2 + 1 := rfl
  rcases h with ⟨h1, _, h3⟩ | ⟨h1, h2, h3⟩
  · refine .inl ⟨?_, h3⟩
    rcases Nat.lt_or_ge 400 (sizeT (subN (getN bs) (x, l))) with h4 | h4
    · exact h4
    · exact absurd (hi.2 (by omega)) (by omega)
  · refine .inr ⟨by have := hi.1 h1; omega, h2, ?_⟩
    rw [e1] at h3
    exact h3.2 hOk (subG_right (getN_rightG hr) ht)
end Go.Proofs.YtgidgmgpgfonnaaGreat
