/- An agenda's Weigh and Pop. -/
import Derived.Test.YtchjdpmgocapjaaAgDr
namespace Go.Proofs.Ytchjdpmgocapjaa
open Go.RowKit Go.Shelf

/-- An entry's weight is another. -/
theorem wt_row {w : World} {g cap : Nat} {es : List En} (hQ : QAt w g cap es) (i : Nat) (hi : i < es.length) (wt : Int) : QAt (w.setCell ⟨es[i].b, 1, none⟩ (.int .i64 wt)) g cap (es.set i { es[i] with wt := wt }) := by
  have hfr : Fr (fun b => b = es[i].b) w (w.setCell ⟨es[i].b, 1, none⟩ (.int .i64 wt)) := fr_set _ _ _ _
  have hb : ∀ k (hk : k < es.length), ((es.set i { es[i] with wt := wt })[k]'(by simpa using hk)).b = es[k].b := fun k hk => by
    rw [List.getElem_set]
    split
    · rename_i h; subst h; rfl
    · rfl
  obtain ⟨cs, r1, r2, r3⟩ := hQ.row
  refine ⟨⟨cs, (hfr.same _ (Array.getElem?_eq_some_iff.1 r1).1 (fun hx => hQ.far i hi hx.symm)).trans r1, r2, fun k hk => ?_⟩, by simpa using hQ.fits, hQ.small, fun k hk => ?_, fun k hk => ?_, fun k l hk hl he => ?_⟩
  · have hk' : k < es.length := by simpa using hk
    rw [hb k hk']
    exact r3 k hk'
  · have hk' : k < es.length := by simpa using hk
    rw [List.getElem_set]
    split
    · rename_i h
      subst h
      exact block_set (hQ.ents i hi) _
    · rename_i h
      have h9 := hQ.ents k hk'
      exact (hfr.same _ (Array.getElem?_eq_some_iff.1 h9).1 (fun hx => h (hQ.once k i hk' hi hx).symm)).trans h9
  · have hk' : k < es.length := by simpa using hk
    rw [hb k hk']
    exact hQ.far k hk'
  · have hk' : k < es.length := by simpa using hk
    have hl' : l < es.length := by simpa using hl
    rw [hb k hk', hb l hl'] at he
    exact hQ.once k l hk' hl' he
/-- Behind Weigh. -/
theorem weigh_end {w W1 w3 : World} {A : Nat} {most last : Int} {es : List En} {g cap : Nat} {mb n : Nat} {D : DataW Value} {L : List Th} {F : Nat → Prop} {i : Nat} (h1 : AgS w A most last es (.slice (some ⟨g, 0, none⟩) es.length cap) mb n D) (h2 : Ab es L last) (hn : (n : Int) ≤ last) (hm : (es.length : Int) ≤ most) (hmm : most ≤ 65536) (f1 : F A) (f2 : F mb) (f3 : F g) (f4 : ∀ k (hk : k < es.length), F es[k].b) (f5 : ∀ b, F b → b < w.heap.size)
    (hi : i < es.length) (wt : Int) (hf1 : Fr (fun b => b = es[i].b) w W1) (hQ : QAt w3 g cap (fixE (es.set i { es[i] with wt := wt }) i es.length)) (hf3 : Fr (fun b => b = g ∨ ∃ k, ∃ h : k < es.length, b = es[k].b) W1 w3) : AgEnd w w3 A most last (weighT L es[i].tk wt) F := by
  have hfr : Fr (fun b => b = g ∨ ∃ k, ∃ h : k < es.length, b = es[k].b) w w3 := (hf1.mono (fun q hq => .inr ⟨i, hi, hq⟩)).trans hf3
  have ab := h2.weigh hi wt
  obtain ⟨o1, o2⟩ := weigh_spec hi h2.heap { es[i] with wt := wt }
  have o3 : (fixE (es.set i { es[i] with wt := wt }) i es.length).length = es.length := by rw [o1.length_eq]; simp
  generalize fixE (es.set i { es[i] with wt := wt }) i es.length = es' at *
  have hmem : ∀ q, q ∈ es' → ∃ k, ∃ hk : k < es.length, q.b = es[k].b ∧ q.tk = es[k].tk := fun q hq => by
    obtain ⟨k, hk, e⟩ := List.getElem_of_mem (o1.mem_iff.1 hq)
    rw [List.getElem_set] at e
    refine ⟨k, by simpa using hk, ?_⟩
    split at e
    · rename_i h; subst h; rw [← e]; exact ⟨rfl, rfl⟩
    · rw [← e]; exact ⟨rfl, rfl⟩
  have hmem2 : ∀ k (hk : k < es.length), ∃ q ∈ es', q.tk = es[k].tk := fun k hk => by
    refine ⟨(es.set i { es[i] with wt := wt })[k]'(by simpa using hk), o1.mem_iff.2 (List.getElem_mem _), ?_⟩
    rw [List.getElem_set]
    split
    · rename_i h; subst h; rfl
    · rfl
  have hS : AgS w3 A most last es' (.slice (some ⟨g, 0, none⟩) es.length cap) mb n D := by
    refine ⟨(hfr.same A (Array.getElem?_eq_some_iff.1 h1.box).1 (fun hx => ?_)).trans h1.box, .inr ⟨g, cap, by rw [o3], hQ⟩, MapAt.fr h1.map hfr (fun hx => ?_), fun q hq => ?_, fun t ht => h1.gone t (fun q hq hx => ?_)⟩
    · rcases hx with hx | ⟨k, hk, hx⟩
      · exact h1.v_A (by rw [hx]; rfl)
      · exact h1.A_e k hk hx.symm
    · rcases hx with hx | ⟨k, hk, hx⟩
      · exact h1.v_mb (by rw [hx]; rfl)
      · exact h1.mb_e k hk hx.symm
    · obtain ⟨k, hk, e1, e2⟩ := hmem q hq
      rw [e1, e2]
      exact h1.here _ (List.getElem_mem hk)
    · obtain ⟨k, hk, rfl⟩ := List.getElem_of_mem hq
      obtain ⟨r, hr, e⟩ := hmem2 k hk
      exact ht r hr (e.trans hx)
  have s3 := hfr.low.size
  refine ⟨F, ⟨_, _, mb, n, _, hS, ab, hn, by omega, hmm, f1, f2, fun b hb => by rw [← Option.some.inj hb]; exact f3, fun k hk => ?_, fun b hb => ?_⟩, ⟨hfr.low, fun k hk hF => hfr.same k hk (fun hx => ?_)⟩, fun b hb => .inl hb⟩
  · obtain ⟨j, hj, e1, _⟩ := hmem _ (List.getElem_mem hk)
    rw [e1]
    exact f4 j hj
  · have := f5 b hb; omega
  · rcases hx with hx | ⟨j, hj, hx⟩
    · exact hF (by rw [hx]; exact f3)
    · exact hF (by rw [hx]; exact f4 j hj)
set_option maxRecDepth 100000 in
set_option maxHeartbeats 4000000 in
theorem weigh_any {w : World} {A : Nat} {most last : Int} {L : List Th} {F : Nat → Prop} (h : AgAt w A most last L F) (t wt : Int) (ht : Is64 t) : Calls Try.prog 23 #[.pointer (some ⟨A, 0, none⟩), .int .i64 t, .int .i64 wt] w fun e w' => e = .returned (.bool (hasT L t)) ∧ AgEnd w w' A most last (weighT L t wt) F := by
  have HE : Hid (AgEnd w w A most last L F) := hid (AgEnd.same h (Below.refl _ w))
  obtain ⟨es, v, mb, n, D, h1, h2, h3, h4, h5, f1, f2, f3, f4, f5⟩ := h
  have k3 : w.cell? ⟨A, 3, none⟩ = some (.map (some mb)) := cell_box h1.box rfl
  have hlk := look_run h1.map ht
  by_cases hin : hasT L t = true
  · obtain ⟨i, hi, rfl⟩ := (h2.has t).2 (hasT_iff.1 hin)
    rw [hin]
    rw [h1.here _ (List.getElem_mem hi)] at hlk
    have hE := h1.q.ents i hi
    rcases h1.q with ⟨_, rfl⟩ | ⟨g, cap, rfl, hQ⟩
    · simp at hi
    · have a1 : w.cell? ⟨es[i].b, 1, none⟩ = some (.int .i64 es[i].wt) := cell_box hE rfl
      have z1 : w.frozen? ⟨es[i].b, 1, none⟩ = false := free_box hE
      have hQ1 := wt_row hQ i hi wt
      have hE1 := hQ1.ents i (by simpa using hi)
      have fr1 : Fr (fun b => b = es[i].b) w (w.setCell ⟨es[i].b, 1, none⟩ (.int .i64 wt)) := fr_set _ _ _ _
      have hbA : (w.setCell ⟨es[i].b, 1, none⟩ (.int .i64 wt)).heap[A]? = some (.cells #[.int .i64 most, .int .i64 last, .slice (some ⟨g, 0, none⟩) es.length cap, .map (some mb)] 82 (0, 0)) := (fr1.same A (Array.getElem?_eq_some_iff.1 h1.box).1 (fun hx => h1.A_e i hi hx.symm)).trans h1.box
      have a3 : (w.setCell ⟨es[i].b, 1, none⟩ (.int .i64 wt)).drew.cell? ⟨es[i].b, 3, none⟩ = some (.int .i64 i) := by
        have h9 : EnAt (w.setCell ⟨es[i].b, 1, none⟩ (.int .i64 wt)) { es[i] with wt := wt } i := by
          have := hE1
          rw [List.getElem_set_self] at this
          exact this
        exact cell_box (W := (w.setCell ⟨es[i].b, 1, none⟩ (.int .i64 wt)).drew) h9 rfl
      have hsl : (es.set i { es[i] with wt := wt }).length = es.length := by simp
      have hag : A ≠ g := fun hx => h1.v_A (by rw [hx]; rfl)
      have HRM := hid (fix_any A g cap (es.set i { es[i] with wt := wt }) (w.setCell ⟨es[i].b, 1, none⟩ (.int .i64 wt)).drew (by rw [hsl]; exact cell_box (W := (w.setCell ⟨es[i].b, 1, none⟩ (.int .i64 wt)).drew) hbA rfl) hQ1.drew (by rw [hsl]; omega) i (by rw [hsl]; exact hi) hag (fun k hk hx => by
        rw [List.getElem_set] at hx
        split at hx
        · exact h1.A_e i hi hx
        · exact h1.A_e k (by simpa using hk) hx))
      have hto : ∀ b, (b = g ∨ ∃ k, ∃ h : k < (es.set i { es[i] with wt := wt }).length, b = (es.set i { es[i] with wt := wt })[k].b) → (b = g ∨ ∃ k, ∃ h : k < es.length, b = es[k].b) := fun b hb => by
        rcases hb with hb | ⟨k, hk, hb⟩
        · exact .inl hb
        · rw [List.getElem_set] at hb
          split at hb
          · exact .inr ⟨i, hi, hb⟩
          · exact .inr ⟨k, by simpa using hk, hb⟩
      have HS := hid h1; have HAB := hid h2; have HTO := hid hto; have HSL := hid hsl
      have HF4 := hid f4; have HF5 := hid f5; have HFR1 := hid fr1
      have f3' := f3 g rfl
      obtain ⟨T, hT⟩ : ∃ T, es[i].tk = T := ⟨_, rfl⟩
      obtain ⟨eb, heb⟩ : ∃ q, es[i].b = q := ⟨_, rfl⟩
      have HTT := hid hT; have HEB := hid heb
      rw [hT] at hlk ht ⊢
      rw [heb] at hlk a3 a1 z1 HRM
      have hlk2 : (Instr.lookup 78 (.map (some mb)) (.int .i64 T) true).run Try.prog w = .ok (.tuple #[.pointer (some ⟨eb, 0, none⟩), .bool true]) w := hlk
      clear h1 h2 hE hQ f4 f5 f3 hlk hT heb hQ1 hE1 fr1 hbA hsl hto
      go_enter Try.func23, Try.ntmps23
      go_wp2_with fail
      go_region_with ((first
        | (go_at_call 27; refine Calls.mono HRM.out ?_; rintro r w3 ⟨⟨u3, rfl⟩, hQ3, hA3, hf3⟩; have HQ3 := hid hQ3; have HF3 := hid hf3; clear hQ3 hA3 hf3)
        | fail))
      all_goals
        have HEND := hid (weigh_end HS.out HAB.out h3 h4 h5 f1 f2 f3' HF4.out HF5.out hi wt HFR1.out (by have h9 := HQ3.out; rw [HSL.out] at h9; exact h9) (by rw [HEB.out]; exact ((Fr.refl _ _).drew).trans (HF3.out.mono HTO.out)))
        rw [HTT.out] at HEND
        go_wp2_with fail
        go_ret
        exact ⟨rfl, HEND.out⟩
  · rw [Bool.not_eq_true] at hin
    rw [hin, weigh_none hin]
    rw [h1.gone t (fun e he hx => by
      have := hasT_iff.2 ((h2.has t).1 (by obtain ⟨k, hk, ek⟩ := List.getElem_of_mem he; exact ⟨k, hk, by rw [ek]; exact hx⟩))
      rw [hin] at this; cases this)] at hlk
    have hlk2 : (Instr.lookup 78 (.map (some mb)) (.int .i64 t) true).run Try.prog w = .ok (.tuple #[.pointer none, .bool false]) w := hlk
    clear h1 h2 hlk f3 f4 f5
    go_enter Try.func23, Try.ntmps23
    go_wp2_with fail
    go_ret
    exact ⟨rfl, HE.out⟩
/-- What Pop leaves. -/
def popL (L : List Th) : List Th := L.eraseIdx (nxI L)
theorem AgEnd.after {w w1 w2 : World} {A : Nat} {most last : Int} {L : List Th} {F : Nat → Prop} (hb : Below w.heap.size w w1) (h : AgEnd w1 w2 A most last L F) : AgEnd w w2 A most last L F := by
  obtain ⟨F', h1, h2, h3⟩ := h
  have s := hb.size
  exact ⟨F', h1, (Fr.of_below hb).trans h2, fun b hx => (h3 b hx).imp id (fun h => by omega)⟩
theorem AgAt.lt {w : World} {A : Nat} {most last : Int} {L : List Th} {F : Nat → Prop} (h : AgAt w A most last L F) : ∀ b, F b → b < w.heap.size := by
  obtain ⟨es, v, mb, n, D, h1, h2, h3, h4, h5, f1, f2, f3, f4, f5⟩ := h
  exact f5
set_option maxRecDepth 100000 in
theorem pop_any {w : World} {A : Nat} {most last : Int} {L : List Th} {F : Nat → Prop} (h : AgAt w A most last L F) (hl : last ≤ 9223372036854775807) : Calls Try.prog 21 #[.pointer (some ⟨A, 0, none⟩)] w fun e w' => e = .returned (peekV L) ∧ AgEnd w w' A most last (popL L) F := by
  have HP := hid (peek_any h)
  have HH := hid h
  obtain ⟨x, t, ok, hv, ht, hd⟩ : ∃ x t : Int, ∃ ok : Bool, peekV L = .tuple #[.int .i64 x, .int .i64 t, .bool ok] ∧ Is64 t ∧ dropT L t = popL L := by
    obtain ⟨es, v, mb, n, D, h1, h2, h3, _⟩ := h
    unfold peekV popL
    by_cases hn : nxI L < L.length
    · rw [dif_pos hn]
      have := h2.tks _ (List.getElem_mem hn)
      exact ⟨_, _, _, rfl, by unfold Is64; omega, drop_nx h2.rise hn⟩
    · rw [dif_neg hn]
      have hne : L = [] := Classical.byContradiction fun hx => hn (nx_lt hx)
      subst hne
      exact ⟨_, _, _, rfl, by unfold Is64; omega, rfl⟩
  rw [hv] at HP ⊢
  have HT := hid ht; have HD := hid hd
  clear h hv ht hd
  go_enter Try.func21, Try.ntmps21
  go_wp2_with fail
  refine HP.out.mono ?_
  rintro r w1 ⟨rfl, hb1⟩
  have HB1 := hid hb1
  have HDR := hid (drop_any (HH.out.below hb1) t HT.out)
  clear hb1
  go_wp2_with fail
  refine HDR.out.mono ?_
  rintro r w2 ⟨rfl, he2⟩
  have HE2 := hid he2
  clear he2
  go_wp2_with fail
  go_ret3
  refine ⟨rfl, ?_⟩
  rw [← HD.out]
  exact AgEnd.after HB1.out HE2.out
end Go.Proofs.Ytchjdpmgocapjaa
