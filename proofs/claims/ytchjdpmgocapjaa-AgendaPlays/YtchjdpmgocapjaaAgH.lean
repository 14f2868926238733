/- The queue's Pop. -/
import Derived.Test.YtchjdpmgocapjaaAgF
namespace Go.Proofs.Ytchjdpmgocapjaa
open Go.RowKit Go.Shelf

theorem cell_set {W : World} {b i : Nat} {v v' : Value} (h : W.cell? ⟨b, i, none⟩ = some v) : (W.setCell ⟨b, i, none⟩ v').cell? ⟨b, i, none⟩ = some v' := by
  unfold World.cell? at h
  cases ho : W.heap[b]? with
  | none => simp [ho] at h
  | some o =>
    cases o with
    | cells cs t fr =>
      simp only [ho] at h
      have hb := block_set (k := i) ho v'
      have hlt : i < cs.size := (Array.getElem?_eq_some_iff.1 h).1
      unfold World.cell?
      simp only [hb]
      rw [Array.getElem?_setIfInBounds, if_pos rfl, if_pos hlt]
      rfl
    | _ => simp [ho] at h
theorem QAt.fr {P : Nat → Prop} {w w' : World} {g cap : Nat} {es : List En} (h : QAt w g cap es) (hf : Fr P w w') (hg : ¬ P g) (he : ∀ k (hk : k < es.length), ¬ P es[k].b) : QAt w' g cap es := by
  obtain ⟨cs, h1, h2, h3⟩ := h.row
  exact ⟨⟨cs, (hf.same _ (Array.getElem?_eq_some_iff.1 h1).1 hg).trans h1, h2, h3⟩, h.fits, h.small, fun i hi => (hf.same _ (Array.getElem?_eq_some_iff.1 (h.ents i hi)).1 (he i hi)).trans (h.ents i hi), h.far, h.once⟩
/-- The last entry is gone. -/
theorem pop_row2 {w : World} {g cap : Nat} {es : List En} (hQ : QAt w g cap es) (l : Nat) (hl : es.length = l + 1) (W1 : World) (h1 : W1 = w.setCell ⟨g, l, none⟩ (.pointer none)) : QAt W1 g cap es.dropLast ∧ Fr (fun b => b = g) w W1 := by
  obtain ⟨cs, e1, e2, e3⟩ := hQ.row
  have hf := hQ.fits
  have hdl : es.dropLast.length = l := by simp [hl]
  have hfr : Fr (fun b => b = g) w W1 := by rw [h1]; exact fr_set _ _ _ _
  have at_ : ∀ i (hi : i < es.dropLast.length), es.dropLast[i] = es[i]'(by omega) := fun i hi => by simp
  refine ⟨⟨⟨cs.setIfInBounds l (.pointer none), by rw [h1]; exact block_set e1 _, by simpa using e2, fun i hi => ?_⟩, by omega, hQ.small, fun i hi => ?_, fun i hi => ?_, fun i j hi hj he => ?_⟩, hfr⟩
  · rw [Array.getElem?_setIfInBounds, if_neg (by omega), at_ i hi]
    exact e3 i (by omega)
  · have h := hQ.ents i (by omega)
    rw [at_ i hi]
    exact (hfr.same _ (Array.getElem?_eq_some_iff.1 h).1 (hQ.far i (by omega))).trans h
  · rw [at_ i hi]
    exact hQ.far i (by omega)
  · rw [at_ i hi, at_ j hj] at he
    exact hQ.once i j (by omega) (by omega) he
set_option maxRecDepth 100000 in
set_option maxHeartbeats 4000000 in
theorem qpop_any (A g cap : Nat) (es : List En) (l : Nat) (hl : es.length = l + 1) (w : World) (hA : w.cell? ⟨A, 2, none⟩ = some (.slice (some ⟨g, 0, none⟩) es.length cap)) (hfA : w.frozen? ⟨A, 2, none⟩ = false) (hQ : QAt w g cap es) (hag : A ≠ g) (hae : ∀ k (h : k < es.length), es[k].b ≠ A) :
    Calls Try.prog 107 #[.pointer (some ⟨A, 2, none⟩)] w fun e w' => e = .returned (.iface 86 (.pointer (some ⟨es[l].b, 0, none⟩))) ∧ QAt w' g cap es.dropLast ∧ w'.cell? ⟨A, 2, none⟩ = some (.slice (some ⟨g, 0, none⟩) l cap) ∧ Fr (fun b => b = g ∨ b = A) w w' ∧ ∀ cs t, w.heap[A]? = some (.cells cs t (0, 0)) → w'.heap[A]? = some (.cells (cs.setIfInBounds 2 (.slice (some ⟨g, 0, none⟩) l cap)) t (0, 0)) := by
  have hmax : maxLen = 9223372036854775807 := rfl
  have hs1 := hQ.fits; have hs2 := hQ.small
  have d1 := hQ.cell l (by omega)
  obtain ⟨cs, e1, e2, e3⟩ := hQ.row
  have f1 := free_box (i := l) e1
  have HP := hid (pop_row2 hQ l hl _ rfl)
  generalize es[l].b = bl at d1 ⊢
  have hA2 : (w.setCell ⟨g, l, none⟩ (.pointer none)).cell? ⟨A, 2, none⟩ = some (.slice (some ⟨g, 0, none⟩) (l + 1) cap) := by rw [← hl]; exact HP.out.2.cell hA hag
  rw [hl] at hA hs1
  have HE := hid (fun k (h : k < es.dropLast.length) => (show es.dropLast[k].b ≠ A by simpa using hae k (by simp at h; omega)))
  clear hQ e1 e2 e3 hae
  go_enter Try.func107, Try.ntmps107
  go_wp2_with fail
  go_ret
  have h9 : ((w.setCell ⟨g, l, none⟩ (.pointer none)).setCell ⟨A, 2, none⟩ (.slice (some ⟨g, 0, none⟩) l cap)).cell? ⟨A, 2, none⟩ = some (.slice (some ⟨g, 0, none⟩) l cap) := cell_set hA2
  exact ⟨rfl, HP.out.1.fr (fr_set _ A 2 _) (fun e => hag e.symm) HE.out, h9, (HP.out.2.mono (fun q hq => .inl hq)).trans ((fr_set _ A 2 _).mono (fun q hq => .inr hq)), fun cs t h => block_set ((set_far hag _).trans h) _⟩
end Go.Proofs.Ytchjdpmgocapjaa
