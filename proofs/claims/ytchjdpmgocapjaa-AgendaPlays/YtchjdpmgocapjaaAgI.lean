/- The heap's Remove. -/
import Derived.Test.YtchjdpmgocapjaaAgG
import Derived.Test.YtchjdpmgocapjaaAgH
namespace Go.Proofs.Ytchjdpmgocapjaa
open Go.RowKit Go.Shelf

/-- All but the entry at a place, and it behind them; n is the last place. -/
def outE (es : List En) (i n : Nat) (hi : i < es.length) (hn : n < es.length) : List En := if n = i then es else fixE (swE es i n hi hn) i n
theorem frozen_fr {P : Nat → Prop} {w w' : World} {b i : Nat} {v : Value} (hf : Fr P w w') (hc : w.cell? ⟨b, i, none⟩ = some v) (hn : ¬ P b) (h : w.frozen? ⟨b, i, none⟩ = false) : w'.frozen? ⟨b, i, none⟩ = false := by
  have e : w'.heap[b]? = w.heap[b]? := hf.same b (World.block_lt_of_cell? w _ hc) hn
  unfold World.frozen? at h ⊢
  simp only [e]
  exact h
theorem fix_keeps (es : List En) (i n : Nat) : (fixE es i n).length = es.length ∧ ∀ k (h : k < (fixE es i n).length), ∃ m, ∃ hm : m < es.length, (fixE es i n)[k].b = es[m].b := by
  obtain ⟨h1, _, h3⟩ := down_keeps n (n - i) i es (Nat.le_refl _)
  unfold fixE
  split
  · exact ⟨h1, h3⟩
  · obtain ⟨h4, h5⟩ := up_keeps (downE es i n).1 i
    refine ⟨h4.trans h1, fun k hk => ?_⟩
    obtain ⟨m, hm, e⟩ := h5 k hk
    obtain ⟨m', hm', e'⟩ := h3 m hm
    exact ⟨m', hm', e.trans e'⟩
theorem out_keeps (es : List En) (i n : Nat) (hi : i < es.length) (hn : n < es.length) : (outE es i n hi hn).length = es.length ∧ ∀ k (h : k < (outE es i n hi hn).length), ∃ m, ∃ hm : m < es.length, (outE es i n hi hn)[k].b = es[m].b := by
  unfold outE
  split
  · exact ⟨rfl, fun k hk => ⟨k, hk, rfl⟩⟩
  · obtain ⟨h1, h2⟩ := fix_keeps (swE es i n hi hn) i n
    refine ⟨h1.trans (swE_len _ _ _ _ _), fun k hk => ?_⟩
    obtain ⟨m, hm, e⟩ := h2 k hk
    obtain ⟨m', hm', e'⟩ := swE_blocks m hm
    exact ⟨m', hm', e.trans e'⟩
set_option maxRecDepth 100000 in
set_option maxHeartbeats 4000000 in
theorem remove_any (A g cap : Nat) (es : List En) (n : Nat) (hl : es.length = n + 1) (w : World) (hA : w.cell? ⟨A, 2, none⟩ = some (.slice (some ⟨g, 0, none⟩) es.length cap)) (hfA : w.frozen? ⟨A, 2, none⟩ = false) (hQ : QAt w g cap es) (hsm : es.length ≤ 1048576) (i : Nat) (hi : i < es.length) (hag : A ≠ g) (hae : ∀ k (h : k < es.length), es[k].b ≠ A) :
    Calls Try.prog 32 #[.iface 89 (.pointer (some ⟨A, 2, none⟩)), .int .i64 i] w fun e w' => (∃ v, e = .returned v) ∧ QAt w' g cap (outE es i n hi (by omega)).dropLast ∧ w'.cell? ⟨A, 2, none⟩ = some (.slice (some ⟨g, 0, none⟩) n cap) ∧ Fr (fun b => b = A ∨ b = g ∨ ∃ k, ∃ h : k < es.length, b = es[k].b) w w' ∧ (∀ cs t, w.heap[A]? = some (.cells cs t (0, 0)) → w'.heap[A]? = some (.cells (cs.setIfInBounds 2 (.slice (some ⟨g, 0, none⟩) n cap)) t (0, 0))) := by
  have hnl : n < es.length := by omega
  suffices hgoal : Calls Try.prog 32 #[.iface 89 (.pointer (some ⟨A, 2, none⟩)), .int .i64 i] w fun e w' => (∃ v, e = .returned v) ∧ QAt w' g cap (outE es i n hi hnl).dropLast ∧ w'.cell? ⟨A, 2, none⟩ = some (.slice (some ⟨g, 0, none⟩) n cap) ∧ Fr (fun b => b = A ∨ b = g ∨ ∃ k, ∃ h : k < es.length, b = es[k].b) w w' ∧ (∀ cs t, w.heap[A]? = some (.cells cs t (0, 0)) → w'.heap[A]? = some (.cells (cs.setIfInBounds 2 (.slice (some ⟨g, 0, none⟩) n cap)) t (0, 0))) from hgoal
  -- the end: Pop of what lies there
  have pops : ∀ W, QAt W g cap (outE es i n hi hnl) → W.cell? ⟨A, 2, none⟩ = some (.slice (some ⟨g, 0, none⟩) es.length cap) → Fr (fun b => b = g ∨ ∃ k, ∃ h : k < es.length, b = es[k].b) w W → Calls Try.prog 107 #[.pointer (some ⟨A, 2, none⟩)] W fun e w' => (∃ v, e = .returned v) ∧ QAt w' g cap (outE es i n hi hnl).dropLast ∧ w'.cell? ⟨A, 2, none⟩ = some (.slice (some ⟨g, 0, none⟩) n cap) ∧ Fr (fun b => b = A ∨ b = g ∨ ∃ k, ∃ h : k < es.length, b = es[k].b) w w' ∧ (∀ cs t, w.heap[A]? = some (.cells cs t (0, 0)) → w'.heap[A]? = some (.cells (cs.setIfInBounds 2 (.slice (some ⟨g, 0, none⟩) n cap)) t (0, 0))) := fun W h1 h2 h3 => by
    obtain ⟨k1, k2⟩ := out_keeps es i n hi hnl
    refine (qpop_any A g cap (outE es i n hi hnl) n (by omega) W (by rw [k1]; exact h2) (frozen_fr h3 hA (fun hx => hx.elim hag (fun ⟨k, h, e⟩ => hae k h e.symm)) hfA) h1 hag (fun k hk e => by obtain ⟨m, hm, em⟩ := k2 k hk; exact hae m hm (em.symm.trans e))).mono ?_
    rintro e w' ⟨rfl, q1, q2, q3, q4⟩
    exact ⟨⟨_, rfl⟩, q1, q2, (h3.mono (fun q hq => .inr hq)).trans (q3.mono (fun q hq => hq.elim (fun e => .inr (.inl e)) .inl)), fun cs t h => q4 cs t ((h3.same A (Array.getElem?_eq_some_iff.1 h).1 (fun hx => hx.elim hag (fun ⟨k, h, e⟩ => hae k h e.symm))).trans h)⟩
  have HPOP := hid pops
  have hme := meth_val len_row A g es.length cap w hA
  have HLN := hid (len_any (some ⟨g, 0, none⟩) es.length cap w)
  have hmp : ∀ W, (method 253 89 (.pointer (some ⟨A, 2, none⟩)) "Pop").run Try.prog W = .ok (107, .pointer (some ⟨A, 2, none⟩)) W := fun W => meth_ptr pop_row A W
  have HA := hid hA; have HQ := hid hQ
  have hlz : (es.length : Int) - 1 = (n : Int) := by omega
  have hnb : (n : Int) ≤ 1048576 := by omega
  have HLL := hid hl
  clear hA hQ pops hl
  go_enter Try.func32, Try.ntmps32
  go_wp2_with fail
  refine HLN.out.mono ?_
  rintro e w1 ⟨rfl, rfl⟩
  by_cases hni : n = i
  · have hne : ((n : Int) != (i : Int)) = false := by simp [hni]
    have HO : Hid (outE es i n hi hnl = es) := hid (by unfold outE; rw [if_pos hni])
    have hm1 := hmp w1
    clear hni hme
    go_wp2_with fail
    refine (HPOP.out w1 (by rw [HO.out]; exact HQ.out) HA.out (Fr.refl _ _)).mono ?_
    rintro e w2 ⟨⟨v2, rfl⟩, q1, q2, q3, q4⟩
    have H1 := hid q1; have H2 := hid q2; have H3 := hid q3; have H4 := hid q4
    clear q1 q2 q3 q4 hm1
    go_wp2_with fail
    go_ret
    exact ⟨⟨_, rfl⟩, H1.out, H2.out, H3.out, H4.out⟩
  · have hne : ((n : Int) != (i : Int)) = true := by simp; omega
    have HO : Hid (outE es i n hi hnl = fixE (swE es i n hi hnl) i n) := hid (by unfold outE; rw [if_neg hni])
    have hms := meth_val swap_mrow A g es.length cap w1 HA.out
    have HSW := hid (swap_any g cap es i n hi hnl w1 HQ.out)
    have hin : i < n := by have := HLL.out; omega
    clear hni hme
    go_wp2_with fail
    refine HSW.out.mono ?_
    rintro e w2 ⟨⟨v2, rfl⟩, hQ2, hf2⟩
    have hA2 : w2.cell? ⟨A, 2, none⟩ = some (.slice (some ⟨g, 0, none⟩) es.length cap) := hf2.cell HA.out (fun hx => hx.elim hag (fun ⟨k, h, e⟩ => hae k h e.symm))
    have hsl := swE_len es i n hi hnl
    have hae2 : ∀ k (h : k < (swE es i n hi hnl).length), (swE es i n hi hnl)[k].b ≠ A := fun k hk e => by obtain ⟨m, hm, em⟩ := swE_blocks k hk; exact hae m hm (em.symm.trans e)
    have HDN := hid (down_any A g cap (swE es i n hi hnl) w2 (by rw [hsl]; exact hA2) hQ2 (by omega) i n (by omega) (by omega) hag hae2)
    have hto1 : ∀ b, (b = g ∨ ∃ k, ∃ h : k < (swE es i n hi hnl).length, b = (swE es i n hi hnl)[k].b) → (b = g ∨ ∃ k, ∃ h : k < es.length, b = es[k].b) := fun b hb => hb.elim .inl (fun ⟨k, h, e⟩ => let ⟨m, hm, e2⟩ := swE_blocks k h; .inr ⟨m, hm, e.trans e2⟩)
    have HKP := hid (down_keeps n (n - i) i (swE es i n hi hnl) (Nat.le_refl _))
    have HFX : Hid (outE es i n hi hnl = if i < (downE (swE es i n hi hnl) i n).2 then (downE (swE es i n hi hnl) i n).1 else upE (downE (swE es i n hi hnl) i n).1 i) := hid (HO.out.trans rfl)
    obtain ⟨es2, hes2⟩ : ∃ x, (downE (swE es i n hi hnl) i n).1 = x := ⟨_, rfl⟩
    obtain ⟨i2, hi2⟩ : ∃ x, (downE (swE es i n hi hnl) i n).2 = x := ⟨_, rfl⟩
    rw [hes2, hi2] at HFX HDN HKP
    have HF2 := hid hf2; have HTO1 := hid hto1; have HSL := hid hsl; have HAE2 := hid hae2
    clear hQ2 hf2 hA2 hes2 hi2 hto1 hae2 hsl hms HO
    go_wp2_with fail
    refine HDN.out.mono ?_
    rintro e w3 ⟨rfl, hQ3, hA3, hf3⟩
    rw [HSL.out] at hA3
    obtain ⟨k1, k2, k3⟩ := HKP.out
    rw [HSL.out] at k1
    have HQ3 := hid hQ3; have HA3 := hid hA3; have HF3 := hid (HF2.out.trans (hf3.mono HTO1.out))
    by_cases h : i < i2
    · rw [decide_eq_true h]
      have HP9 := hid (HPOP.out w3 (by rw [HFX.out, if_pos h]; exact hQ3) hA3 HF3.out)
      have hm1 := hmp w3
      clear hQ3 hA3 hf3 k3 k1
      go_wp2_with fail
      refine HP9.out.mono ?_
      rintro e w4 ⟨⟨v4, rfl⟩, q1, q2, q3, q4⟩
      have H1 := hid q1; have H2 := hid q2; have H3 := hid q3; have H4 := hid q4
      clear q1 q2 q3 q4 hm1
      go_wp2_with fail
      go_ret
      exact ⟨⟨_, rfl⟩, H1.out, H2.out, H3.out, H4.out⟩
    · rw [decide_eq_false h]
      have hae3 : ∀ k (h : k < es2.length), es2[k].b ≠ A := fun k hk e => by obtain ⟨m, hm, em⟩ := k3 k hk; exact HAE2.out m hm (em.symm.trans e)
      have HUP := hid (up_any A g cap es2 w3 (by rw [k1]; exact hA3) hQ3 i (by omega) hag hae3)
      have hto : ∀ b, (b = g ∨ ∃ k, ∃ h : k < es2.length, b = es2[k].b) → (b = g ∨ ∃ k, ∃ h : k < es.length, b = es[k].b) := fun b hb => hb.elim .inl (fun ⟨k, h, e⟩ => let ⟨m, hm, e2⟩ := k3 k h; HTO1.out b (.inr ⟨m, hm, e.trans e2⟩))
      have HTO := hid hto; have HK1 := hid k1
      clear hQ3 hA3 hf3 k3 hto k1 HKP hae3
      go_wp2_with fail
      refine HUP.out.mono ?_
      rintro e w4 ⟨⟨v4, rfl⟩, hQ4, hA4, hf4⟩
      rw [HK1.out] at hA4
      have HP9 := hid (HPOP.out w4 (by rw [HFX.out, if_neg h]; exact hQ4) hA4 (HF3.out.trans (hf4.mono HTO.out)))
      have hm1 := hmp w4
      clear hQ4 hA4 hf4
      go_wp2_with fail
      refine HP9.out.mono ?_
      rintro e w5 ⟨⟨v5, rfl⟩, q1, q2, q3, q4⟩
      have H1 := hid q1; have H2 := hid q2; have H3 := hid q3; have H4 := hid q4
      clear q1 q2 q3 q4 hm1
      go_wp2_with fail
      go_ret
      exact ⟨⟨_, rfl⟩, H1.out, H2.out, H3.out, H4.out⟩
end Go.Proofs.Ytchjdpmgocapjaa
