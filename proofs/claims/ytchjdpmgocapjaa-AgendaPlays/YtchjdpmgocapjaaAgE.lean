/- The heap's up. -/
import Derived.Test.YtchjdpmgocapjaaAgX
namespace Go.Proofs.Ytchjdpmgocapjaa
open Go.RowKit Go.Shelf

def upN : Nat → List En → Nat → List En
  | 0, es, _ => es
  | f + 1, es, j =>
    if h : 0 < j ∧ j < es.length then
      if lessE (es[j]'h.2) (es[(j - 1) / 2]'(by omega)) then upN f (swE es ((j - 1) / 2) j (by omega) h.2) ((j - 1) / 2) else es
    else es
/-- An entry goes up as long as it comes ahead of what lies above it. -/
def upE (es : List En) (j : Nat) : List En := upN j es j
theorem upN_enough : ∀ (f g : Nat) (es : List En) (j : Nat), j ≤ f → j ≤ g → upN f es j = upN g es j
  | 0, 0, _, _, _, _ => rfl
  | 0, g + 1, es, j, h, _ => by
    unfold upN
    rw [dif_neg (by omega)]
  | f + 1, 0, es, j, _, h => by
    unfold upN
    rw [dif_neg (by omega)]
  | f + 1, g + 1, es, j, hf, hg => by
    unfold upN
    split
    · split
      · exact upN_enough f g _ _ (by omega) (by omega)
      · rfl
    · rfl
theorem upE_eq (es : List En) (j : Nat) : upE es j = if h : 0 < j ∧ j < es.length then
    if lessE (es[j]'h.2) (es[(j - 1) / 2]'(by omega)) then upE (swE es ((j - 1) / 2) j (by omega) h.2) ((j - 1) / 2) else es
  else es := by
  unfold upE
  cases j with
  | zero => rw [dif_neg (by omega)]; rfl
  | succ j =>
    conv => lhs; unfold upN
    split
    · split
      · exact upN_enough _ _ _ _ (by omega) (by omega)
      · rfl
    · rfl
theorem up_step {es : List En} {j i : Nat} (h0 : 0 < j) (hj : j < es.length) (hi : (j - 1) / 2 = i) (hil : i < es.length) (h : lessE es[j] es[i] = true) : upE es j = upE (swE es i j hil hj) i := by
  subst hi
  rw [upE_eq, dif_pos ⟨h0, hj⟩, if_pos h]
theorem up_stop {es : List En} {j i : Nat} (h0 : 0 < j) (hj : j < es.length) (hi : (j - 1) / 2 = i) (hil : i < es.length) (h : lessE es[j] es[i] = false) : upE es j = es := by
  subst hi
  rw [upE_eq, dif_pos ⟨h0, hj⟩, if_neg (by rw [h]; decide)]
theorem below_blk {W W' : World} {b : Nat} {o : Obj} (hb : Below W.heap.size W W') (h : W.heap[b]? = some o) : W'.heap[b]? = some o := (hb.block _ (Array.getElem?_eq_some_iff.1 h).1).trans h
theorem QAt.below {w w' : World} {g cap : Nat} {es : List En} (h : QAt w g cap es) (hb : Below w.heap.size w w') : QAt w' g cap es := by
  obtain ⟨cs, h1, h2, h3⟩ := h.row
  exact ⟨⟨cs, below_blk hb h1, h2, h3⟩, h.fits, h.small, fun i hi => below_blk hb (h.ents i hi), h.far, h.once⟩
theorem quo_up (j : Nat) (h : 0 < j) : ((j : Int) - 1).tdiv 2 = (((j - 1) / 2 : Nat) : Int) := by
  rw [Int.tdiv_eq_ediv_of_nonneg (by omega)]
  omega
set_option maxRecDepth 100000 in
set_option maxHeartbeats 4000000 in
theorem up_any (A g cap : Nat) (es : List En) (w : World) (hA : w.cell? ⟨A, 2, none⟩ = some (.slice (some ⟨g, 0, none⟩) es.length cap)) (hQ : QAt w g cap es) (j : Nat) (hj : j < es.length) (hag : A ≠ g) (hae : ∀ k (h : k < es.length), es[k].b ≠ A) : Calls Try.prog 43 #[.iface 89 (.pointer (some ⟨A, 2, none⟩)), .int .i64 j] w fun e w' => (∃ v, e = .returned v) ∧ QAt w' g cap (upE es j) ∧ w'.cell? ⟨A, 2, none⟩ = some (.slice (some ⟨g, 0, none⟩) es.length cap) ∧ Fr (fun b => b = g ∨ ∃ k, ∃ h : k < es.length, b = es[k].b) w w' := by
  have hmax : maxLen = 9223372036854775807 := rfl
  have HA := hid hA; have HQ := hid hQ
  clear hA hQ
  go_enter Try.func43, Try.ntmps43
  go_wp2_with fail
  go_loopw [1] (fun jv wr => ∃ (j' : Nat) (es' : List En), jv = .int .i64 j' ∧ j' < es'.length ∧ es'.length = es.length ∧ upE es' j' = upE es j ∧ QAt wr g cap es' ∧ wr.cell? ⟨A, 2, none⟩ = some (.slice (some ⟨g, 0, none⟩) es.length cap) ∧ (∀ k (h : k < es'.length), ∃ m, ∃ hm : m < es.length, es'[k].b = es[m].b) ∧ Fr (fun b => b = g ∨ ∃ k, ∃ h : k < es.length, b = es[k].b) w wr) (fun jv _ => (intOf jv).toNat)
  case atStart => exact ⟨j, es, rfl, hj, rfl, rfl, HQ.out, HA.out, fun k h => ⟨k, h, rfl⟩, Fr.refl _ _⟩
  case round =>
    obtain ⟨j', es', rfl, hj', hl, hu, hQ, hA, hm, hf⟩ := hrel
    by_cases h0 : j' = 0
    · subst h0
      have HQ2 := hid hQ; have HA2 := hid hA; have HF2 := hid hf; have HU := hid hu
      have hu0 : upE es' 0 = es' := by rw [upE_eq]; simp
      have HU0 := hid hu0
      clear hQ hA hm hf hu hu0
      go_wp2_with fail
      refine bodyPost_end (results_none rfl _ _ _) rfl ?_
      exact ⟨⟨_, rfl⟩, by rw [← HU.out, HU0.out]; exact HQ2.out, HA2.out, HF2.out⟩
    · have hq := quo_up j' (by omega)
      obtain ⟨i, hi⟩ : ∃ i, (j' - 1) / 2 = i := ⟨_, rfl⟩
      rw [hi] at hq
      have hij : i < j' := by omega
      have hne : ((i : Int) == (j' : Int)) = false := by
        simp
        omega
      have hs1 := hQ.fits; have hs2 := hQ.small
      have hil : i < es'.length := by omega
      rw [← hl] at hA
      have hme := meth_val less_row A g es'.length cap wr hA
      have hle := less_any g cap es' j' i hj' hil wr hQ
      obtain ⟨bv, hbv⟩ : ∃ bv, lessE es'[j'] es'[i] = bv := ⟨_, rfl⟩
      rw [hbv] at hle
      have HLE := hid hle
      have HQ2 := hid hQ; have HA2 := hid hA; have HF2 := hid hf; have HU := hid hu; have HM2 := hid hm; have HL := hid hl; have HI := hid hi; have HBV := hid hbv
      have hjm : (j' : Int) ≤ 9223372036854775807 := by omega
      have hj0 : (0 : Int) < (j' : Int) := by omega
      clear hQ hA hm hf hu hle hi hbv hl
      go_wp2_with fail
      refine HLE.out.mono ?_
      rintro e w2 ⟨rfl, hb2⟩
      have HB2 := hid hb2
      have hA3 := below_cell hb2 _ _ HA2.out
      have hQ3 := HQ2.out.below hb2
      have hms := meth_val swap_mrow A g es'.length cap w2 hA3
      have HSW := hid (swap_any g cap es' i j' hil hj' w2 hQ3)
      have HA3 := hid hA3
      clear hb2 hQ3 hA3 hme HLE
      cases bv with
      | false =>
        go_wp2_with fail
        refine bodyPost_end (results_none rfl _ _ _) rfl ?_
        exact ⟨⟨_, rfl⟩, by rw [← HU.out, up_stop (by omega) hj' HI.out hil HBV.out]; exact HQ2.out.below HB2.out, by rw [← HL.out]; exact HA3.out, HF2.out.trans (Fr.of_below HB2.out)⟩
      | true =>
        go_wp2_with fail
        refine HSW.out.mono ?_
        rintro e w3 ⟨⟨v3, rfl⟩, hQ4, hf4⟩
        have HQ4 := hid hQ4; have HF4 := hid hf4
        clear hQ4 hf4 hms
        go_wp2_with fail
        have hto : ∀ b, (b = g ∨ ∃ k, ∃ h : k < es'.length, b = es'[k].b) → (b = g ∨ ∃ k, ∃ h : k < es.length, b = es[k].b) := fun b hb => hb.elim .inl (fun ⟨k, h, e⟩ => let ⟨m, hm, e2⟩ := HM2.out k h; .inr ⟨m, hm, e.trans e2⟩)
        go_roundw
        case rel =>
          refine ⟨i, swE es' i j' hil hj', rfl, by rw [swE_len]; exact hil, by rw [swE_len]; exact HL.out, by rw [← HU.out, up_step (by omega) hj' HI.out hil HBV.out], HQ4.out, ?_, fun k hk => ?_, (HF2.out.trans (Fr.of_below HB2.out)).trans (HF4.out.mono hto)⟩
          · rw [← HL.out]
            exact HF4.out.cell HA3.out (fun hx => (hto _ hx).elim hag (fun ⟨k, h, e⟩ => hae k h e.symm))
          · obtain ⟨m, hm, em, _⟩ := swE_of es' i j' k hil hj' hk
            rw [em]
            exact HM2.out m hm
        case measure => simp [intOf]; omega
end Go.Proofs.Ytchjdpmgocapjaa
