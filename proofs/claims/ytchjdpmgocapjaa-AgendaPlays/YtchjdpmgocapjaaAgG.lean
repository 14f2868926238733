/- The heap's Fix. -/
import Derived.Test.YtchjdpmgocapjaaAgF
namespace Go.Proofs.Ytchjdpmgocapjaa
open Go.RowKit Go.Shelf

/-- An entry whose weight has changed finds its place: down, or else up. -/
def fixE (es : List En) (i n : Nat) : List En := if i < (downE es i n).2 then (downE es i n).1 else upE (downE es i n).1 i
theorem swE_blocks {es : List En} {i j : Nat} {hi : i < es.length} {hj : j < es.length} (k : Nat) (h : k < (swE es i j hi hj).length) : ∃ m, ∃ hm : m < es.length, (swE es i j hi hj)[k].b = es[m].b := by
  obtain ⟨m, hm, em, _⟩ := swE_of es i j k hi hj h
  exact ⟨m, hm, by rw [em]⟩
theorem up_keeps (es : List En) (j : Nat) : (upE es j).length = es.length ∧ ∀ k (h : k < (upE es j).length), ∃ m, ∃ hm : m < es.length, (upE es j)[k].b = es[m].b := by
  induction j using Nat.strongRecOn generalizing es with
  | _ j ih =>
    rw [upE_eq]
    split
    · rename_i h
      split
      · obtain ⟨h1, h2⟩ := ih ((j - 1) / 2) (by omega) (swE es ((j - 1) / 2) j (by omega) h.2)
        refine ⟨h1.trans (swE_len _ _ _ _ _), fun k hk => ?_⟩
        obtain ⟨m, hm, e⟩ := h2 k hk
        obtain ⟨m', hm', e'⟩ := swE_blocks m hm
        exact ⟨m', hm', e.trans e'⟩
      · exact ⟨rfl, fun k hk => ⟨k, hk, rfl⟩⟩
    · exact ⟨rfl, fun k hk => ⟨k, hk, rfl⟩⟩
theorem down_keeps (n : Nat) : ∀ (d i : Nat) (es : List En), n - i ≤ d → (downE es i n).1.length = es.length ∧ (i ≤ (downE es i n).2) ∧ ∀ k (h : k < (downE es i n).1.length), ∃ m, ∃ hm : m < es.length, (downE es i n).1[k].b = es[m].b := by
  intro d
  induction d with
  | zero =>
    intro i es hd
    rw [down_end (by omega)]
    exact ⟨rfl, Nat.le_refl _, fun k hk => ⟨k, hk, rfl⟩⟩
  | succ d ih =>
    intro i es hd
    rw [downE_eq]
    split
    · rename_i h
      have hk := kid_lt h.1 h.2
      split
      · obtain ⟨h1, h2, h3⟩ := ih (kidE es i n h.1 h.2) (swE es i (kidE es i n h.1 h.2) (by omega) (by omega)) (by omega)
        refine ⟨h1.trans (swE_len _ _ _ _ _), by omega, fun k hk => ?_⟩
        obtain ⟨m, hm, e⟩ := h3 k hk
        obtain ⟨m', hm', e'⟩ := swE_blocks m hm
        exact ⟨m', hm', e.trans e'⟩
      · exact ⟨rfl, Nat.le_refl _, fun k hk => ⟨k, hk, rfl⟩⟩
    · exact ⟨rfl, Nat.le_refl _, fun k hk => ⟨k, hk, rfl⟩⟩
set_option maxRecDepth 100000 in
set_option maxHeartbeats 4000000 in
theorem fix_any (A g cap : Nat) (es : List En) (w : World) (hA : w.cell? ⟨A, 2, none⟩ = some (.slice (some ⟨g, 0, none⟩) es.length cap)) (hQ : QAt w g cap es) (hsm : es.length ≤ 1048576) (i : Nat) (hi : i < es.length) (hag : A ≠ g) (hae : ∀ k (h : k < es.length), es[k].b ≠ A) :
    Calls Try.prog 27 #[.iface 89 (.pointer (some ⟨A, 2, none⟩)), .int .i64 i] w fun e w' => (∃ v, e = .returned v) ∧ QAt w' g cap (fixE es i es.length) ∧ w'.cell? ⟨A, 2, none⟩ = some (.slice (some ⟨g, 0, none⟩) es.length cap) ∧ Fr (fun b => b = g ∨ ∃ k, ∃ h : k < es.length, b = es[k].b) w w' := by
  have hme := meth_val len_row A g es.length cap w hA
  have HLN := hid (len_any (some ⟨g, 0, none⟩) es.length cap w)
  have HDN := hid (down_any A g cap es w hA hQ hsm i es.length hi (Nat.le_refl _) hag hae)
  have HKP := hid (down_keeps es.length (es.length - i) i es (Nat.le_refl _))
  have HFX : Hid (fixE es i es.length = if i < (downE es i es.length).2 then (downE es i es.length).1 else upE (downE es i es.length).1 i) := hid rfl
  obtain ⟨es2, hes2⟩ : ∃ x, (downE es i es.length).1 = x := ⟨_, rfl⟩
  obtain ⟨i2, hi2⟩ : ∃ x, (downE es i es.length).2 = x := ⟨_, rfl⟩
  rw [hes2, hi2] at HFX HDN HKP
  clear hA hQ hes2 hi2
  go_enter Try.func27, Try.ntmps27
  go_wp2_with fail
  refine HLN.out.mono ?_
  rintro e w1 ⟨rfl, rfl⟩
  go_wp2_with fail
  refine HDN.out.mono ?_
  rintro e w2 ⟨rfl, hQ2, hA2, hf2⟩
  obtain ⟨k1, k2, k3⟩ := HKP.out
  have HQ2 := hid hQ2; have HA2 := hid hA2; have HF2 := hid hf2
  by_cases h : i < i2
  · rw [decide_eq_true h]
    clear hQ2 hA2 hf2 k3
    go_wp2_with fail
    refine bodyPost_end (results_none rfl _ _ _) rfl ?_
    exact ⟨⟨_, rfl⟩, by rw [HFX.out, if_pos h]; exact HQ2.out, HA2.out, HF2.out⟩
  · rw [decide_eq_false h]
    have HUP := hid (up_any A g cap es2 w2 (by rw [k1]; exact hA2) hQ2 i (by omega) hag (fun k hk e => by obtain ⟨m, hm, em⟩ := k3 k hk; exact hae m hm (em.symm.trans e)))
    have hto : ∀ b, (b = g ∨ ∃ k, ∃ h : k < es2.length, b = es2[k].b) → (b = g ∨ ∃ k, ∃ h : k < es.length, b = es[k].b) := fun b hb => hb.elim .inl (fun ⟨k, h, e⟩ => let ⟨m, hm, e2⟩ := k3 k h; .inr ⟨m, hm, e.trans e2⟩)
    have HTO := hid hto; have HK1 := hid k1
    clear hQ2 hA2 hf2 k3 hto k1 HKP
    go_wp2_with fail
    refine HUP.out.mono ?_
    rintro e w3 ⟨⟨v3, rfl⟩, hQ3, hA3, hf3⟩
    have HQ3 := hid hQ3; have HA3 := hid hA3; have HF3 := hid hf3
    clear hQ3 hA3 hf3
    go_wp2_with fail
    refine bodyPost_end (results_none rfl _ _ _) rfl ?_
    exact ⟨⟨_, rfl⟩, by rw [HFX.out, if_neg h]; exact HQ3.out, by rw [← HK1.out]; exact HA3.out, HF2.out.trans (HF3.out.mono HTO.out)⟩
end Go.Proofs.Ytchjdpmgocapjaa
