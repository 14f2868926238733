/- The queue's method Swap. -/
import Derived.Test.YtchjdpmgocapjaaAgC
namespace Go.Proofs.Ytchjdpmgocapjaa
open Go.RowKit Go.Shelf

theorem free_box {W : World} {b i : Nat} {cs : Array Value} {T : TypeId} (h : W.heap[b]? = some (.cells cs T (0, 0))) : W.frozen? ⟨b, i, none⟩ = false := by simp [World.frozen?, h]
theorem QAt.drew {w : World} {g cap : Nat} {es : List En} (h : QAt w g cap es) : QAt w.drew g cap es := ⟨h.row, h.fits, h.small, h.ents, h.far, h.once⟩
/-- Two have changed places. -/
def swE (es : List En) (i j : Nat) (hi : i < es.length) (hj : j < es.length) : List En := (es.set i es[j]).set j es[i]
theorem swE_len (es : List En) (i j : Nat) (hi : i < es.length) (hj : j < es.length) : (swE es i j hi hj).length = es.length := by simp [swE]
theorem swE_lt {es : List En} {i j k : Nat} {hi : i < es.length} {hj : j < es.length} (hk : k < (swE es i j hi hj).length) : k < es.length := by rw [swE_len] at hk; exact hk
theorem swE_at (es : List En) (i j k : Nat) (hi : i < es.length) (hj : j < es.length) (hk : k < (swE es i j hi hj).length) : (swE es i j hi hj)[k] = if k = j then es[i] else if k = i then es[j] else es[k]'(swE_lt hk) := by
  have hk' := swE_lt hk
  show ((es.set i es[j]).set j es[i])[k]'(by simpa using hk') = _
  rw [List.getElem_set]
  by_cases h : k = j
  · rw [if_pos h, if_pos h.symm]
  · rw [if_neg h, if_neg (fun e => h e.symm), List.getElem_set]
    by_cases h2 : k = i
    · rw [if_pos h2, if_pos h2.symm]
    · rw [if_neg h2, if_neg (fun e => h2 e.symm)]
theorem swE_of (es : List En) (i j k : Nat) (hi : i < es.length) (hj : j < es.length) (hk : k < (swE es i j hi hj).length) : ∃ m, ∃ h : m < es.length, (swE es i j hi hj)[k] = es[m] ∧ ((k = j ∧ m = i) ∨ (k ≠ j ∧ k = i ∧ m = j) ∨ (k ≠ j ∧ k ≠ i ∧ m = k)) := by
  rw [swE_at]
  by_cases h : k = j
  · exact ⟨i, hi, by rw [if_pos h], .inl ⟨h, rfl⟩⟩
  · by_cases h2 : k = i
    · exact ⟨j, hj, by rw [if_neg h, if_pos h2], .inr (.inl ⟨h, h2, rfl⟩)⟩
    · exact ⟨k, swE_lt hk, by rw [if_neg h, if_neg h2], .inr (.inr ⟨h, h2, rfl⟩)⟩
/-- The row, its cells exchanged. -/
theorem swap_row {w : World} {g cap : Nat} {es : List En} (hQ : QAt w g cap es) (i j : Nat) (hi : i < es.length) (hj : j < es.length) (W1 : World) (h1 : W1 = (w.setCell ⟨g, i, none⟩ (.pointer (some ⟨es[j].b, 0, none⟩))).setCell ⟨g, j, none⟩ (.pointer (some ⟨es[i].b, 0, none⟩))) :
    (∃ cs : Array Value, W1.heap[g]? = some (.cells cs 86 (0, 0)) ∧ cs.size = cap ∧ ∀ k (h : k < (swE es i j hi hj).length), cs[k]? = some (.pointer (some ⟨(swE es i j hi hj)[k].b, 0, none⟩))) ∧ Fr (fun b => b = g) w W1 := by
  obtain ⟨cs, e1, e2, e3⟩ := hQ.row
  have hf := hQ.fits
  subst h1
  refine ⟨⟨_, block_set (block_set e1 _) _, by simpa using e2, fun k hk => ?_⟩, (fr_set _ _ _ _).trans (fr_set _ _ _ _)⟩
  have hk' := swE_lt hk
  rw [swE_at]
  by_cases h : k = j
  · rw [if_pos h, h, Array.getElem?_setIfInBounds, if_pos rfl, if_pos (by simp; omega)]
  · rw [if_neg h, Array.getElem?_setIfInBounds, if_neg (fun e => h e.symm)]
    by_cases h2 : k = i
    · rw [if_pos h2, h2, Array.getElem?_setIfInBounds, if_pos rfl, if_pos (by omega)]
    · rw [if_neg h2, Array.getElem?_setIfInBounds, if_neg (fun e => h2 e.symm)]
      exact e3 k hk'
/-- The entries' own places. -/
theorem swap_ents {w : World} {g cap : Nat} {es : List En} (hQ : QAt w g cap es) (i j : Nat) (hi : i < es.length) (hj : j < es.length) {W1 : World} (hr : ∃ cs : Array Value, W1.heap[g]? = some (.cells cs 86 (0, 0)) ∧ cs.size = cap ∧ ∀ k (h : k < (swE es i j hi hj).length), cs[k]? = some (.pointer (some ⟨(swE es i j hi hj)[k].b, 0, none⟩)))
    (hf : Fr (fun b => b = g) w W1) (W3 : World) (h3 : W3 = (W1.setCell ⟨es[j].b, 3, none⟩ (.int .i64 i)).setCell ⟨es[i].b, 3, none⟩ (.int .i64 j)) :
    QAt W3 g cap (swE es i j hi hj) ∧ Fr (fun b => b = g ∨ ∃ k, ∃ h : k < es.length, b = es[k].b) w W3 := by
  have hgi := hQ.far i hi; have hgj := hQ.far j hj
  have hfr : Fr (fun b => b = es[j].b ∨ b = es[i].b) W1 W3 := by
    subst h3
    exact ((fr_set _ _ _ _).mono (fun q hq => .inl hq)).trans ((fr_set _ _ _ _).mono (fun q hq => .inr hq))
  have ent : ∀ k (h : k < es.length), EnAt W1 es[k] k := fun k h => (hf.same _ (Array.getElem?_eq_some_iff.1 (hQ.ents k h)).1 (hQ.far k h)).trans (hQ.ents k h)
  refine ⟨⟨?_, by rw [swE_len]; exact hQ.fits, hQ.small, fun k hk => ?_, fun k hk => ?_, fun k l hk hl he => ?_⟩, (hf.mono (fun q hq => .inl hq)).trans (hfr.mono (fun q hq => .inr (hq.elim (fun e => ⟨j, hj, e⟩) (fun e => ⟨i, hi, e⟩))))⟩
  · obtain ⟨cs, e1, e2, e3⟩ := hr
    exact ⟨cs, (hfr.same _ (Array.getElem?_eq_some_iff.1 e1).1 (fun h => h.elim (fun e => hgj e.symm) (fun e => hgi e.symm))).trans e1, e2, e3⟩
  · have hk' := swE_lt hk
    have ei := ent i hi; have ej := ent j hj
    unfold EnAt at ei ej ⊢
    rw [swE_at]
    by_cases h : k = j
    · rw [if_pos h, h3, h]
      by_cases hij : es[j].b = es[i].b
      · rw [hij]
        have hb := block_set (block_set (k := 3) ei (.int .i64 i)) (k := 3) (.int .i64 j)
        exact hb
      · exact block_set ((set_far (fun e => hij e.symm) _).trans ei) (.int .i64 j)
    · rw [if_neg h]
      by_cases h2 : k = i
      · rw [if_pos h2, h3, h2]
        have hne : es[j].b ≠ es[i].b := fun e => h (by rw [h2]; exact (hQ.once j i hj hi e).symm)
        exact (set_far hne _).trans (block_set ej (.int .i64 i))
      · rw [if_neg h2]
        have h4 := ent k hk'
        exact (hfr.same _ (Array.getElem?_eq_some_iff.1 h4).1 (fun hx => hx.elim (fun e => h (hQ.once k j hk' hj e)) (fun e => h2 (hQ.once k i hk' hi e)))).trans h4
  · have hk' := swE_lt hk
    rw [swE_at]
    split
    · exact hgi
    · split
      · exact hgj
      · exact hQ.far k hk'
  · obtain ⟨m, hm, em, cm⟩ := swE_of es i j k hi hj hk
    obtain ⟨n, hn, en, cn⟩ := swE_of es i j l hi hj hl
    rw [em, en] at he
    have := hQ.once m n hm hn he
    omega
set_option maxRecDepth 100000 in
set_option maxHeartbeats 4000000 in
theorem swap_any (g cap : Nat) (es : List En) (i j : Nat) (hi : i < es.length) (hj : j < es.length) (w : World) (hQ : QAt w g cap es) : Calls Try.prog 106 #[.slice (some ⟨g, 0, none⟩) es.length cap, .int .i64 i, .int .i64 j] w fun e w' => (∃ v, e = .returned v) ∧ QAt w' g cap (swE es i j hi hj) ∧ Fr (fun b => b = g ∨ ∃ k, ∃ h : k < es.length, b = es[k].b) w w' := by
  have hmax : maxLen = 9223372036854775807 := rfl
  have hs1 := hQ.fits; have hs2 := hQ.small
  have d1 := hQ.drew.cell i hi; have d2 := hQ.drew.cell j hj
  obtain ⟨cs, e1, e2, e3⟩ := hQ.drew.row
  have f1 := free_box (i := i) e1; have f2 := free_box (i := j) e1
  have HR := hid (swap_row hQ i j hi hj _ rfl)
  have e4 := block_set (k := i) e1 (.pointer (some ⟨es[j].b, 0, none⟩))
  have f3 : (w.setCell ⟨g, i, none⟩ (.pointer (some ⟨es[j].b, 0, none⟩))).drew.frozen? ⟨g, j, none⟩ = false := free_box e4
  have f4 : w.frozen? ⟨g, j, none⟩ = false := f2
  have f5 : w.frozen? ⟨g, i, none⟩ = false := f1
  obtain ⟨v0, hv0⟩ : ∃ v, (cs.setIfInBounds i (.pointer (some ⟨es[j].b, 0, none⟩)))[j]? = some v := ⟨_, Array.getElem?_eq_getElem (show j < (cs.setIfInBounds i (.pointer (some ⟨es[j].b, 0, none⟩))).size by rw [Array.size_setIfInBounds]; omega)⟩
  have d3 : (w.setCell ⟨g, i, none⟩ (.pointer (some ⟨es[j].b, 0, none⟩))).drew.cell? ⟨g, j, none⟩ = some v0 := cell_box e4 hv0
  have d4 : (w.setCell ⟨g, i, none⟩ (.pointer (some ⟨es[j].b, 0, none⟩))).cell? ⟨g, j, none⟩ = some v0 := cell_box e4 hv0
  have HQ := hid hQ
  obtain ⟨ei, hei⟩ : ∃ e, es[i] = e := ⟨_, rfl⟩
  obtain ⟨ej, hej⟩ : ∃ e, es[j] = e := ⟨_, rfl⟩
  have HEI := hid hei; have HEJ := hid hej
  rw [hei] at d1 HR
  rw [hej] at d2 HR d3 d4 f3
  obtain ⟨n, hn⟩ : ∃ n, es.length = n := ⟨_, rfl⟩
  have HNN := hid hn
  have hiz : (i : Int) < (n : Int) := by omega
  have hjz : (j : Int) < (n : Int) := by omega
  have hin : i < n := by omega
  have hjn : j < n := by omega
  rw [hn] at hs1
  rw [show Calls Try.prog 106 #[.slice (some ⟨g, 0, none⟩) es.length cap, .int .i64 i, .int .i64 j] w = Calls Try.prog 106 #[.slice (some ⟨g, 0, none⟩) n cap, .int .i64 i, .int .i64 j] w by rw [hn]]
  clear hQ e1 e2 e3 e4 hv0 hei hej hn
  go_enter Try.func106, Try.ntmps106
  go_wp2_with fail
  go_region
  generalize (w.setCell ⟨g, i, none⟩ (.pointer (some ⟨ej.b, 0, none⟩))).setCell ⟨g, j, none⟩ (.pointer (some ⟨ei.b, 0, none⟩)) = W1 at HR ⊢
  have HR2 : Hid ((∃ cs : Array Value, W1.drew.heap[g]? = some (.cells cs 86 (0, 0)) ∧ cs.size = cap ∧ ∀ k (h : k < (swE es i j hi hj).length), cs[k]? = some (.pointer (some ⟨(swE es i j hi hj)[k].b, 0, none⟩))) ∧ Fr (fun b => b = g) w W1.drew) := hid ⟨HR.out.1, HR.out.2.drew⟩
  generalize W1.drew = W2 at HR2 ⊢
  clear HR f1 f2 f3 f4 f5 d1 d2 d3 d4
  obtain ⟨⟨cs2, r1, r2, r3⟩, hf2⟩ := HR2.out
  have hei := HEI.out; have hej := HEJ.out; have hnn := HNN.out
  have k1 : cs2[i]? = some (.pointer (some ⟨ej.b, 0, none⟩)) := by
    have h := r3 i (by rw [swE_len]; exact hi)
    rw [swE_at] at h
    rw [h]
    by_cases hij : i = j
    · subst hij
      rw [if_pos rfl, hej]
    · rw [if_neg hij, if_pos rfl, hej]
  have k2 : cs2[j]? = some (.pointer (some ⟨ei.b, 0, none⟩)) := by
    have h := r3 j (by rw [swE_len]; exact hj)
    rw [swE_at, if_pos rfl, hei] at h
    exact h
  have c1 : W2.drew.cell? ⟨g, i, none⟩ = some (.pointer (some ⟨ej.b, 0, none⟩)) := cell_box r1 k1
  have c2 : W2.drew.cell? ⟨g, j, none⟩ = some (.pointer (some ⟨ei.b, 0, none⟩)) := cell_box r1 k2
  have ni := HQ.out.ents i hi; have nj := HQ.out.ents j hj
  have gi := HQ.out.far i hi; have gj := HQ.out.far j hj
  rw [hei] at ni gi
  rw [hej] at nj gj
  have mi := (hf2.same _ (Array.getElem?_eq_some_iff.1 ni).1 gi).trans ni
  have mj := (hf2.same _ (Array.getElem?_eq_some_iff.1 nj).1 gj).trans nj
  have c3 : W2.drew.cell? ⟨ej.b, 3, none⟩ = some (.int .i64 j) := cell_box mj rfl
  have g3 : W2.drew.frozen? ⟨ej.b, 3, none⟩ = false := free_box mj
  have g3' : W2.frozen? ⟨ej.b, 3, none⟩ = false := free_box mj
  have g4' : W2.frozen? ⟨ei.b, 3, none⟩ = false := free_box mi
  obtain ⟨cs3, m3⟩ : ∃ v, (W2.setCell ⟨ej.b, 3, none⟩ (.int .i64 i)).heap[ei.b]? = some (.cells #[.int .i64 ei.x, .int .i64 ei.wt, .int .i64 ei.tk, .int .i64 v] 88 (0, 0)) := by
    by_cases hb : ei.b = ej.b
    · rw [hb] at mi ⊢
      exact ⟨_, block_set mi _⟩
    · exact ⟨_, (set_far hb _).trans mi⟩
  have c4 : (W2.setCell ⟨ej.b, 3, none⟩ (.int .i64 i)).drew.cell? ⟨ei.b, 3, none⟩ = some (.int .i64 cs3) := cell_box m3 rfl
  have c4' : (W2.setCell ⟨ej.b, 3, none⟩ (.int .i64 i)).cell? ⟨ei.b, 3, none⟩ = some (.int .i64 cs3) := cell_box m3 rfl
  have g4 : (W2.setCell ⟨ej.b, 3, none⟩ (.int .i64 i)).drew.frozen? ⟨ei.b, 3, none⟩ = false := free_box m3
  have HF := hid (swap_ents HQ.out i j hi hj (W1 := W2) ⟨cs2, r1, r2, r3⟩ hf2 _ rfl)
  rw [hei, hej] at HF
  clear r1 r2 r3 k1 k2 ni nj gi gj mi mj m3 hei hej hnn hf2 HR2
  go_wp2_with fail
  go_region
  go_wp2_with fail
  refine bodyPost_end (results_none rfl _ _ _) rfl ?_
  exact ⟨⟨_, rfl⟩, HF.out.1.drew, HF.out.2.drew⟩
end Go.Proofs.Ytchjdpmgocapjaa
