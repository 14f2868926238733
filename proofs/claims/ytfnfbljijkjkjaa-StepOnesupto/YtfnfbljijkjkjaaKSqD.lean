import Derived.Test.YtfnfbljijkjkjaaKSqC
/- The document's One, whole, where the left side's symbol is the signature's. -/
namespace Go.Proofs.Ytfnfbljijkjkjaa
open Go.RowKit Go.Deep

theorem rone_any (S : Option Addr) (n cap : Nat) (sg : List Sym) (s t : Tn) (a b : Option Addr) (c d : Nat) (w : World) (hG : SigAt w S n sg) (hS : TmAt w s.1 a c s.2) (hT : TmAt w t.1 b d t.2) (hM : nodesF s.2 ≤ 1048576) (hR : noName s.1.1 = true → 0 ≤ s.1.2 ∧ s.1.2 < sg.length) :
    Calls Try.prog 12 #[.slice S n cap, .agg #[.string s.1.1, .int .i64 s.1.2, .slice a (lenF s.2) c, .string t.1.1, .int .i64 t.1.2, .slice b (lenF t.2) d]] w fun e w' => (∃ v, e = .returned v ∧ WyAt w' v (oneP sg s t)) ∧ Below w.heap.size w w' := by
  have hln := len_nodes s.2
  obtain ⟨⟨xn, xs⟩, l⟩ := s
  obtain ⟨⟨yn, ys⟩, m⟩ := t
  dsimp only at *
  unfold oneP
  by_cases h0 : cmpN ((xn, xs), l) ((yn, ys), m) = 0
  · rw [if_pos h0]
    exact rone_same S n cap xn xs l yn ys m a b c d w hS hT (by rw [h0]; rfl)
  · have hc0 : (cmpN ((xn, xs), l) ((yn, ys), m) == 0) = false := by simp [h0]
    rw [if_neg h0]
    unfold lookP
    dsimp only
    cases hx : noName xn <;> cases hy : noName yn
    · rw [if_pos rfl, if_pos rfl]
      have e1 : cmpN ((xn, xs), l) ((yn, ys), m) = cmpS xn yn := by unfold cmpN cmp1; dsimp only; rw [if_pos hx, if_pos hy]
      have e2 := cmpS_three xn yn
      unfold ofVarsP
      dsimp only
      rw [if_neg h0]
      cases hb : Op.bytesLess xn.toList yn.toList
      · cases hq : (xn.toList == yn.toList)
        · rw [hb, hq] at e2
          have e3 : cmpN ((xn, xs), l) ((yn, ys), m) = 1 := by rw [e1, e2]; rfl
          rw [if_pos e3]
          exact rone_gt S n cap xn xs l yn ys m a b c d w hS hT hc0 hx hy hb hq
        · rw [hb, hq] at e2
          exact absurd (e1.trans e2) h0
      · rw [hb] at e2
        have e3 : cmpN ((xn, xs), l) ((yn, ys), m) = -1 := by rw [e1, e2]; rfl
        rw [if_neg (by rw [e3]; decide)]
        exact rone_le S n cap xn xs l yn ys m a b c d w hS hT hc0 hx hy hb
    · rw [if_pos rfl, if_neg (by decide)]
      unfold ofVarP
      dsimp only
      rw [← hasR_is]
      cases hh : hasR xn (yn, ys) m
      · exact rone_lset S n cap xn xs l yn ys m a b c d w hS hT hc0 hx hy hh
      · exact rone_lhas S n cap xn xs l yn ys m a b c d w hS hT hc0 hx hy hh
    · rw [if_neg (by decide), if_pos rfl]
      unfold ofVarP
      dsimp only
      rw [← hasR_is]
      cases hh : hasR yn (xn, xs) l
      · exact rone_rset S n cap xn xs l yn ys m a b c d w hS hT hc0 hx hy hh
      · exact rone_rhas S n cap xn xs l yn ys m a b c d w hS hT hc0 hx hy hh
    · rw [if_neg (by decide), if_neg (by decide)]
      obtain ⟨r0, r1⟩ := hR hx
      by_cases he : xs = ys
      · rw [if_pos he]
        by_cases hk : kindAt sg xs = 1
        · have hf : freeB sg xs = true := by unfold freeB; rw [hk, decide_eq_true r0, decide_eq_true r1]; rfl
          rw [if_pos hf]
          unfold sideP
          by_cases hl : lenF l = lenF m
          · rw [if_pos hl]
            exact rone_parts S n cap sg xn xs l yn ys m a b c d w hG hS hT hc0 hx hy he.symm r0 r1 (by rw [hk]; rfl) hl.symm (by omega)
          · rw [if_neg hl]
            exact rone_lens S n cap sg xn xs l yn ys m a b c d w hG hS hT hc0 hx hy he.symm r0 r1 (by rw [hk]; rfl) (by simp; omega)
        · have hf : ¬ freeB sg xs = true := by unfold freeB; simp [hk]
          rw [if_neg hf]
          exact rone_pure S n cap sg xn xs l yn ys m a b c d w hG hS hT hc0 hx hy he.symm r0 r1 (by simp [hk])
      · rw [if_neg he]
        exact rone_syms S n cap xn xs l yn ys m a b c d w hS hT hc0 hx hy (by simp [he])
theorem right_in {l : List Sym} {t : Tn} (h : rightB l t = true) (hn : noName t.1.1 = true) : 0 ≤ t.1.2 ∧ t.1.2 < l.length := by
  unfold rightB at h
  simp only [Bool.and_eq_true, beq_iff_eq] at h
  have h2 := h.2
  unfold errT thenC at h2
  by_cases h3 : t.1.2 < 0 ∨ (l.length : Int) ≤ t.1.2
  · rw [nodeErr_out hn h3] at h2
    simp at h2
  · omega
end Go.Proofs.Ytfnfbljijkjkjaa
