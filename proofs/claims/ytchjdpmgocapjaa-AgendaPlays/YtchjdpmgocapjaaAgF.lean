/- The heap's down. -/
import Derived.Test.YtchjdpmgocapjaaAgE
namespace Go.Proofs.Ytchjdpmgocapjaa
open Go.RowKit Go.Shelf

/-- The lesser of the two below. -/
def kidE (es : List En) (i n : Nat) (hn : n ≤ es.length) (_ : 2 * i + 1 < n) : Nat :=
  if h2 : 2 * i + 2 < n then (if lessE (es[2 * i + 2]'(by omega)) (es[2 * i + 1]'(by omega)) then 2 * i + 2 else 2 * i + 1) else 2 * i + 1
theorem kid_lt {es : List En} {i n : Nat} (hn : n ≤ es.length) (h : 2 * i + 1 < n) : i < kidE es i n hn h ∧ kidE es i n hn h < n := by
  unfold kidE
  split
  · split <;> omega
  · omega
def downN (n : Nat) : Nat → List En → Nat → List En × Nat
  | 0, es, i => (es, i)
  | f + 1, es, i =>
    if h : n ≤ es.length ∧ 2 * i + 1 < n then
      if lessE (es[kidE es i n h.1 h.2]'(by have := kid_lt h.1 h.2; omega)) (es[i]'(by omega)) then downN n f (swE es i (kidE es i n h.1 h.2) (by omega) (by have := kid_lt h.1 h.2; omega)) (kidE es i n h.1 h.2) else (es, i)
    else (es, i)
/-- An entry goes down as long as one below comes ahead of it. -/
def downE (es : List En) (i n : Nat) : List En × Nat := downN n (n - i) es i
theorem downN_enough (n : Nat) : ∀ (f g : Nat) (es : List En) (i : Nat), n - i ≤ f → n - i ≤ g → downN n f es i = downN n g es i
  | 0, 0, _, _, _, _ => rfl
  | 0, g + 1, es, j, h, _ => by
    unfold downN
    rw [dif_neg (by omega)]
  | f + 1, 0, es, j, _, h => by
    unfold downN
    rw [dif_neg (by omega)]
  | f + 1, g + 1, es, j, hf, hg => by
    unfold downN
    split
    · rename_i h
      have := kid_lt h.1 h.2
      split
      · exact downN_enough n f g _ _ (by omega) (by omega)
      · rfl
    · rfl
theorem downE_eq (es : List En) (i n : Nat) : downE es i n = if h : n ≤ es.length ∧ 2 * i + 1 < n then
    if lessE (es[kidE es i n h.1 h.2]'(by have := kid_lt h.1 h.2; omega)) (es[i]'(by omega)) then downE (swE es i (kidE es i n h.1 h.2) (by omega) (by have := kid_lt h.1 h.2; omega)) (kidE es i n h.1 h.2) n else (es, i)
  else (es, i) := by
  unfold downE
  obtain ⟨f, hf⟩ : ∃ f, n - i = f := ⟨_, rfl⟩
  rw [hf]
  cases f with
  | zero => rw [dif_neg (by omega)]; rfl
  | succ f =>
    conv => lhs; unfold downN
    split
    · rename_i h
      have := kid_lt h.1 h.2
      split
      · exact downN_enough n _ _ _ _ (by omega) (by omega)
      · rfl
    · rfl
theorem down_step {es : List En} {i n j : Nat} (hn : n ≤ es.length) (h1 : 2 * i + 1 < n) (hk : kidE es i n hn h1 = j) (hil : i < es.length) (hjl : j < es.length) (h : lessE es[j] es[i] = true) : downE es i n = downE (swE es i j hil hjl) j n := by
  subst hk
  rw [downE_eq, dif_pos ⟨hn, h1⟩, if_pos h]
theorem down_stop {es : List En} {i n j : Nat} (hn : n ≤ es.length) (h1 : 2 * i + 1 < n) (hk : kidE es i n hn h1 = j) (hil : i < es.length) (hjl : j < es.length) (h : lessE es[j] es[i] = false) : downE es i n = (es, i) := by
  subst hk
  rw [downE_eq, dif_pos ⟨hn, h1⟩, if_neg (by rw [h]; decide)]
theorem down_end {es : List En} {i n : Nat} (h1 : ¬ 2 * i + 1 < n) : downE es i n = (es, i) := by
  rw [downE_eq, dif_neg (fun h => h1 h.2)]
set_option maxRecDepth 100000 in
set_option maxHeartbeats 4000000 in
theorem down_any (A g cap : Nat) (es : List En) (w : World) (hA : w.cell? ⟨A, 2, none⟩ = some (.slice (some ⟨g, 0, none⟩) es.length cap)) (hQ : QAt w g cap es) (hsm : es.length ≤ 1048576) (i0 n : Nat) (hi0 : i0 < es.length) (hn : n ≤ es.length) (hag : A ≠ g) (hae : ∀ k (h : k < es.length), es[k].b ≠ A) :
    Calls Try.prog 44 #[.iface 89 (.pointer (some ⟨A, 2, none⟩)), .int .i64 i0, .int .i64 n] w fun e w' => e = .returned (.bool (decide (i0 < (downE es i0 n).2))) ∧ QAt w' g cap (downE es i0 n).1 ∧ w'.cell? ⟨A, 2, none⟩ = some (.slice (some ⟨g, 0, none⟩) es.length cap) ∧ Fr (fun b => b = g ∨ ∃ k, ∃ h : k < es.length, b = es[k].b) w w' := by
  have HA := hid hA; have HQ := hid hQ
  clear hA hQ
  go_enter Try.func44, Try.ntmps44
  go_wp2_with fail
  go_loopw [7] (fun iv wr => ∃ (i : Nat) (es' : List En), iv = .int .i64 i ∧ i < es'.length ∧ es'.length = es.length ∧ downE es' i n = downE es i0 n ∧ QAt wr g cap es' ∧ wr.cell? ⟨A, 2, none⟩ = some (.slice (some ⟨g, 0, none⟩) es.length cap) ∧ (∀ k (h : k < es'.length), ∃ m, ∃ hm : m < es.length, es'[k].b = es[m].b) ∧ Fr (fun b => b = g ∨ ∃ k, ∃ h : k < es.length, b = es[k].b) w wr) (fun iv _ => 1048576 - (intOf iv).toNat)
  case atStart => exact ⟨i0, es, rfl, hi0, rfl, rfl, HQ.out, HA.out, fun k h => ⟨k, h, rfl⟩, Fr.refl _ _⟩
  case round =>
    obtain ⟨i, es', rfl, hi, hl, hu, hQ, hA, hm, hf⟩ := hrel
    rw [← hl] at hA
    have HQ2 := hid hQ; have HA2 := hid hA; have HF2 := hid hf; have HU := hid hu; have HM2 := hid hm; have HL := hid hl
    have hib : i < 1048576 := by omega
    have hn' : n ≤ es'.length := by omega
    by_cases h1 : 2 * i + 1 < n
    · have hlt : ¬ (n : Int) ≤ 2 * (i : Int) + 1 := by omega
      have hz0 : ¬ 2 * (i : Int) + 1 < 0 := by omega
      clear hQ hA hm hf hu hl
      by_cases h2 : 2 * i + 2 < n
      · have h2z : 2 * (i : Int) + 2 < (n : Int) := by omega
        have hme := meth_val less_row A g es'.length cap wr HA2.out
        have hle := less_any g cap es' (2 * i + 2) (2 * i + 1) (by omega) (by omega) wr HQ2.out
        rw [show ((2 * i + 2 : Nat) : Int) = 2 * (i : Int) + 2 by omega, show ((2 * i + 1 : Nat) : Int) = 2 * (i : Int) + 1 by omega] at hle
        obtain ⟨bv, hbv⟩ : ∃ bv, lessE (es'[2 * i + 2]'(by omega)) (es'[2 * i + 1]'(by omega)) = bv := ⟨_, rfl⟩
        rw [hbv] at hle
        have HLE := hid hle; have HBV := hid hbv
        clear hle hbv
        go_wp2_with fail
        refine HLE.out.mono ?_
        rintro e w2 ⟨rfl, hb2⟩
        have HB2 := hid hb2
        clear hb2 hme HLE
        cases bv with
        | true =>
          have hjl : 2 * i + 2 < es'.length := by omega
          have hKD : kidE es' i n hn' h1 = 2 * i + 2 := by unfold kidE; rw [dif_pos h2, if_pos HBV.out]
          have hQ5 := HQ2.out.below HB2.out
          have hA5 := below_cell HB2.out _ _ HA2.out
          have hme5 := meth_val less_row A g es'.length cap w2 hA5
          have hle5 := less_any g cap es' (2 * i + 2) i hjl hi w2 hQ5
          rw [show ((2 * i + 2 : Nat) : Int) = 2 * (i : Int) + 2 by omega] at hle5
          obtain ⟨bw, hbw⟩ : ∃ bw, lessE es'[2 * i + 2] es'[i] = bw := ⟨_, rfl⟩
          rw [hbw] at hle5
          have HL5 := hid hle5; have HBW := hid hbw; have HKD := hid hKD; have HQ5 := hid hQ5; have HA5 := hid hA5
          have HF5 : Hid (Fr (fun b => b = g ∨ ∃ k, ∃ h : k < es.length, b = es[k].b) w w2) := hid (HF2.out.trans (Fr.of_below HB2.out))
          clear hQ5 hA5 hle5 hbw hKD
          go_wp2_with fail
          refine HL5.out.mono ?_
          rintro e w6 ⟨rfl, hb6⟩
          have hA6 := below_cell hb6 _ _ HA5.out
          have HB6 := hid hb6
          have hms := meth_val swap_mrow A g es'.length cap w6 hA6
          have hsw := swap_any g cap es' i (2 * i + 2) hi hjl w6 (HQ5.out.below hb6)
          rw [show ((2 * i + 2 : Nat) : Int) = 2 * (i : Int) + 2 by omega] at hsw
          have HSW := hid hsw; have HA6 := hid hA6
          clear hb6 hA6 hsw hme5 HL5
          cases bw with
          | false =>
            go_wp2_with fail
            go_ret
            have HE := down_stop hn' h1 HKD.out hi hjl HBW.out
            exact ⟨by rw [← HU.out, HE]; rfl, by rw [← HU.out, HE]; exact HQ5.out.below HB6.out, by rw [← HL.out]; exact HA6.out, HF5.out.trans (Fr.of_below HB6.out)⟩
          | true =>
            go_wp2_with fail
            refine HSW.out.mono ?_
            rintro e w7 ⟨⟨v7, rfl⟩, hQ7, hf7⟩
            have HQ7 := hid hQ7; have HF7 := hid hf7
            clear hQ7 hf7 hms
            go_wp2_with fail
            have hto : ∀ b, (b = g ∨ ∃ k, ∃ h : k < es'.length, b = es'[k].b) → (b = g ∨ ∃ k, ∃ h : k < es.length, b = es[k].b) := fun b hb => hb.elim .inl (fun ⟨k, h, e⟩ => let ⟨m, hm, e2⟩ := HM2.out k h; .inr ⟨m, hm, e.trans e2⟩)
            go_roundw
            case rel =>
              refine ⟨2 * i + 2, swE es' i (2 * i + 2) hi hjl, congrArg (Value.int .i64) (by omega), by rw [swE_len]; exact hjl, by rw [swE_len]; exact HL.out, by rw [← HU.out, down_step hn' h1 HKD.out hi hjl HBW.out], HQ7.out, ?_, fun k hk => ?_, (HF5.out.trans (Fr.of_below HB6.out)).trans (HF7.out.mono hto)⟩
              · rw [← HL.out]
                exact HF7.out.cell HA6.out (fun hx => (hto _ hx).elim hag (fun ⟨k, h, e⟩ => hae k h e.symm))
              · obtain ⟨m, hm, em, _⟩ := swE_of es' i (2 * i + 2) k hi hjl hk
                rw [em]
                exact HM2.out m hm
            case measure => simp [intOf]; omega
        | false =>
          have hjl : 2 * i + 1 < es'.length := by omega
          have hKD : kidE es' i n hn' h1 = 2 * i + 1 := by unfold kidE; rw [dif_pos h2, if_neg (by rw [HBV.out]; decide)]
          have hQ5 := HQ2.out.below HB2.out
          have hA5 := below_cell HB2.out _ _ HA2.out
          have hme5 := meth_val less_row A g es'.length cap w2 hA5
          have hle5 := less_any g cap es' (2 * i + 1) i hjl hi w2 hQ5
          rw [show ((2 * i + 1 : Nat) : Int) = 2 * (i : Int) + 1 by omega] at hle5
          obtain ⟨bw, hbw⟩ : ∃ bw, lessE es'[2 * i + 1] es'[i] = bw := ⟨_, rfl⟩
          rw [hbw] at hle5
          have HL5 := hid hle5; have HBW := hid hbw; have HKD := hid hKD; have HQ5 := hid hQ5; have HA5 := hid hA5
          have HF5 : Hid (Fr (fun b => b = g ∨ ∃ k, ∃ h : k < es.length, b = es[k].b) w w2) := hid (HF2.out.trans (Fr.of_below HB2.out))
          clear hQ5 hA5 hle5 hbw hKD
          go_wp2_with fail
          refine HL5.out.mono ?_
          rintro e w6 ⟨rfl, hb6⟩
          have hA6 := below_cell hb6 _ _ HA5.out
          have HB6 := hid hb6
          have hms := meth_val swap_mrow A g es'.length cap w6 hA6
          have hsw := swap_any g cap es' i (2 * i + 1) hi hjl w6 (HQ5.out.below hb6)
          rw [show ((2 * i + 1 : Nat) : Int) = 2 * (i : Int) + 1 by omega] at hsw
          have HSW := hid hsw; have HA6 := hid hA6
          clear hb6 hA6 hsw hme5 HL5
          cases bw with
          | false =>
            go_wp2_with fail
            go_ret
            have HE := down_stop hn' h1 HKD.out hi hjl HBW.out
            exact ⟨by rw [← HU.out, HE]; rfl, by rw [← HU.out, HE]; exact HQ5.out.below HB6.out, by rw [← HL.out]; exact HA6.out, HF5.out.trans (Fr.of_below HB6.out)⟩
          | true =>
            go_wp2_with fail
            refine HSW.out.mono ?_
            rintro e w7 ⟨⟨v7, rfl⟩, hQ7, hf7⟩
            have HQ7 := hid hQ7; have HF7 := hid hf7
            clear hQ7 hf7 hms
            go_wp2_with fail
            have hto : ∀ b, (b = g ∨ ∃ k, ∃ h : k < es'.length, b = es'[k].b) → (b = g ∨ ∃ k, ∃ h : k < es.length, b = es[k].b) := fun b hb => hb.elim .inl (fun ⟨k, h, e⟩ => let ⟨m, hm, e2⟩ := HM2.out k h; .inr ⟨m, hm, e.trans e2⟩)
            go_roundw
            case rel =>
              refine ⟨2 * i + 1, swE es' i (2 * i + 1) hi hjl, congrArg (Value.int .i64) (by omega), by rw [swE_len]; exact hjl, by rw [swE_len]; exact HL.out, by rw [← HU.out, down_step hn' h1 HKD.out hi hjl HBW.out], HQ7.out, ?_, fun k hk => ?_, (HF5.out.trans (Fr.of_below HB6.out)).trans (HF7.out.mono hto)⟩
              · rw [← HL.out]
                exact HF7.out.cell HA6.out (fun hx => (hto _ hx).elim hag (fun ⟨k, h, e⟩ => hae k h e.symm))
              · obtain ⟨m, hm, em, _⟩ := swE_of es' i (2 * i + 1) k hi hjl hk
                rw [em]
                exact HM2.out m hm
            case measure => simp [intOf]; omega
      · have h2z : ¬ 2 * (i : Int) + 2 < (n : Int) := by omega
        have hjl : 2 * i + 1 < es'.length := by omega
        have hKD : kidE es' i n hn' h1 = 2 * i + 1 := by unfold kidE; rw [dif_neg h2]
        have hQ5 := HQ2.out
        have hA5 := HA2.out
        have hme5 := meth_val less_row A g es'.length cap wr hA5
        have hle5 := less_any g cap es' (2 * i + 1) i hjl hi wr hQ5
        rw [show ((2 * i + 1 : Nat) : Int) = 2 * (i : Int) + 1 by omega] at hle5
        obtain ⟨bw, hbw⟩ : ∃ bw, lessE es'[2 * i + 1] es'[i] = bw := ⟨_, rfl⟩
        rw [hbw] at hle5
        have HL5 := hid hle5; have HBW := hid hbw; have HKD := hid hKD; have HQ5 := hid hQ5; have HA5 := hid hA5
        have HF5 : Hid (Fr (fun b => b = g ∨ ∃ k, ∃ h : k < es.length, b = es[k].b) w wr) := hid (HF2.out)
        clear hQ5 hA5 hle5 hbw hKD
        go_wp2_with fail
        refine HL5.out.mono ?_
        rintro e w6 ⟨rfl, hb6⟩
        have hA6 := below_cell hb6 _ _ HA5.out
        have HB6 := hid hb6
        have hms := meth_val swap_mrow A g es'.length cap w6 hA6
        have hsw := swap_any g cap es' i (2 * i + 1) hi hjl w6 (HQ5.out.below hb6)
        rw [show ((2 * i + 1 : Nat) : Int) = 2 * (i : Int) + 1 by omega] at hsw
        have HSW := hid hsw; have HA6 := hid hA6
        clear hb6 hA6 hsw hme5 HL5
        cases bw with
        | false =>
          go_wp2_with fail
          go_ret
          have HE := down_stop hn' h1 HKD.out hi hjl HBW.out
          exact ⟨by rw [← HU.out, HE]; rfl, by rw [← HU.out, HE]; exact HQ5.out.below HB6.out, by rw [← HL.out]; exact HA6.out, HF5.out.trans (Fr.of_below HB6.out)⟩
        | true =>
          go_wp2_with fail
          refine HSW.out.mono ?_
          rintro e w7 ⟨⟨v7, rfl⟩, hQ7, hf7⟩
          have HQ7 := hid hQ7; have HF7 := hid hf7
          clear hQ7 hf7 hms
          go_wp2_with fail
          have hto : ∀ b, (b = g ∨ ∃ k, ∃ h : k < es'.length, b = es'[k].b) → (b = g ∨ ∃ k, ∃ h : k < es.length, b = es[k].b) := fun b hb => hb.elim .inl (fun ⟨k, h, e⟩ => let ⟨m, hm, e2⟩ := HM2.out k h; .inr ⟨m, hm, e.trans e2⟩)
          go_roundw
          case rel =>
            refine ⟨2 * i + 1, swE es' i (2 * i + 1) hi hjl, congrArg (Value.int .i64) (by omega), by rw [swE_len]; exact hjl, by rw [swE_len]; exact HL.out, by rw [← HU.out, down_step hn' h1 HKD.out hi hjl HBW.out], HQ7.out, ?_, fun k hk => ?_, (HF5.out.trans (Fr.of_below HB6.out)).trans (HF7.out.mono hto)⟩
            · rw [← HL.out]
              exact HF7.out.cell HA6.out (fun hx => (hto _ hx).elim hag (fun ⟨k, h, e⟩ => hae k h e.symm))
            · obtain ⟨m, hm, em, _⟩ := swE_of es' i (2 * i + 1) k hi hjl hk
              rw [em]
              exact HM2.out m hm
          case measure => simp [intOf]; omega
    · have HE := hid (down_end (es := es') h1)
      have hge : (n : Int) ≤ 2 * (i : Int) + 1 := by omega
      clear hQ hA hm hf hu hl
      go_wp2_with fail
      go_ret
      exact ⟨by rw [← HU.out, HE.out]; rfl, by rw [← HU.out, HE.out]; exact HQ2.out, by rw [← HL.out]; exact HA2.out, HF2.out⟩
end Go.Proofs.Ytchjdpmgocapjaa
