import Derived.Test.YtfnfbljijkjkjaaGreatKUfL
/- lay of the solver, whole. -/
namespace Go.Proofs.YtfnfbljijkjkjaaGreat
open Go.RowKit Go.Shelf Go.Deep

attribute [local go_sem] Oper.semAt_some

/-- What lay keeps from its start on: its boxes, the solver, what is laid already. -/
structure LyS (w0 w : World) (B : Nat) (v1 v2 : Value) (n : Nat) (es : List Kv) (bs : List Bk) (P : List Eq2) (q : Option Addr) (d P1 P2 D L : Nat) (k : Nat) (W : World) : Prop where
  low : Fr (fun b => v1.ownBlock = some b ∨ b = B) w W
  p1 : Box W P1 94 #[.pointer (some ⟨B, 0, none⟩)]
  p2 : Box W P2 39 #[.slice q P.length d]
  df : W.heap[D]? = some (.deferred (some []))
  sv : ∃ v1', (v1'.ownBlock = v1.ownBlock ∨ ∀ g, v1'.ownBlock = some g → L < g) ∧ Sv w0 B v1' v2 (n + k) (es ++ flatK (P.reverse.take k)) bs W
theorem fr_putO (W : World) (L : Nat) (o : Obj) : Fr (fun b => b = L) W (W.putObj L o) := ⟨below_putObj _ (Nat.zero_le _) _, fun _ _ hb => World.putObj_heap_other hb⟩
theorem LyS.put {w0 w : World} {B : Nat} {v1 v2 : Value} {n : Nat} {es : List Kv} {bs : List Bk} {P : List Eq2} {q : Option Addr} {d P1 P2 D L k : Nat} {W : World} (h : LyS w0 w B v1 v2 n es bs P q d P1 P2 D L k W) {r : Loop} (hL : W.heap[L]? = some (.loop r)) (hw : w.heap.size ≤ L) (hw0 : w0.heap.size ≤ L) (h1 : P1 ≠ L) (h2 : P2 ≠ L) (h3 : D ≠ L) (h4 : B ≠ L) (h5 : v1.ownBlock ≠ some L) (h6 : v2.ownBlock ≠ some L) (o : Obj) : LyS w0 w B v1 v2 n es bs P q d P1 P2 D L k (W.putObj L o) := by
  obtain ⟨v1', e1, e2⟩ := h.sv
  refine ⟨fr_putl h.low hw o, (World.putObj_heap_other h1).trans h.p1, (World.putObj_heap_other h2).trans h.p2, (World.putObj_heap_other h3).trans h.df, v1', e1, e2.keep (fr_putO W L o) (fun b ob hb ho => ?_) (fun b hb => by omega) h4 (fun b hb e => ?_) (fun b hb e => h6 (by rw [hb, e]))⟩
  · subst hb
    rw [hL] at ho
    cases ho
    unfold S0
    rw [decide_eq_false (by omega)]
    rfl
  · subst e
    rcases e1 with e1 | e1
    · exact h5 (by rw [← e1, hb])
    · exact Nat.lt_irrefl _ (e1 b hb)
set_option maxRecDepth 100000 in
set_option maxHeartbeats 8000000 in
theorem lay_any (w0 : World) (B : Nat) (v1 v2 : Value) (n : Nat) (es : List Kv) (bs : List Bk) (w : World) (P : List Eq2) (q : Option Addr) (d : Nat) (hS0 : Sv w0 B v1 v2 n es bs w) (hP : ∀ p ∈ P, TmO (S0 w0.heap.size) w p.1.x p.1.a p.1.c p.1.l ∧ TmO (S0 w0.heap.size) w p.2.x p.2.a p.2.c p.2.l) (hq : EqsAt w q P) (hg : 0 < P.length → ∀ g o, q = some ⟨g, o, none⟩ → g ≠ B ∧ v1.ownBlock ≠ some g) (hn : n + P.length ≤ 1073741824) :
    Calls Tryz.prog 28 #[.pointer (some ⟨B, 0, none⟩), .slice q P.length d] w fun e w' => (∃ v, e = .returned v) ∧ Fr (fun b => v1.ownBlock = some b ∨ b = B) w w' ∧ ∃ v1', Sv w0 B v1' v2 (n + P.length) (es ++ flatK P.reverse) bs w' := by
  refine (callsIn_wide (n := 6)).1 ?_
  have h1 : 1 ≤ 6 := by omega
  have HS := hid hS0; have HP := hid hP; have HEQ := hid hq; have HGG := hid hg
  have hlt := hS0.box.lt
  have hwB := hS0.hB
  have hw0 := hS0.low.size
  have hv1 : Hid (∀ g, v1.ownBlock = some g → g < w.heap.size) := hid fun g hg => (hS0.r1.lt g hg).2
  have hv2 : Hid (∀ g, v2.ownBlock = some g → g < w.heap.size) := hid fun g hg => (hS0.r2.lt g hg).2
  clear hS0 hP hq hg
  refine callsIn_of_wp_marks Tryz.func28 rfl trivial ?_ rfl
  simp only [Tryz.ntmps28, List.size_toArray, List.length_cons, List.length_nil, Nat.reduceAdd, Nat.reduceSub, Array.replicate_succ, Array.replicate_zero, List.push_toArray, List.append_toArray, List.nil_append, List.cons_append]
  gi_wp2_with fail
  refine ⟨trivial, ?_⟩
  refine (callsIn_wide.2 (backward_any _ _ _ _)).mono ?_
  rintro e w' ⟨rfl, rfl⟩
  gi_wp2
  obtain ⟨W0, hW0⟩ : ∃ W0, (w.alloc (.cells #[.pointer (some ⟨B, 0, none⟩)] 94)).alloc (.cells #[.slice q P.length d] 39) = W0 := ⟨_, rfl⟩
  obtain ⟨t1, t2, t3⟩ := two_new w #[.pointer (some ⟨B, 0, none⟩)] 94 #[.slice q P.length d] 39
  have hz0 : W0.heap.size = w.heap.size + 2 := by rw [← hW0]; simp
  rw [hW0] at t1 t2 t3 ⊢
  have HT1 := hid t1; have HT2 := hid t2; have HT3 := hid t3; have HZ0 := hid hz0
  clear hW0 t1 t2 t3
  refine range_law rfl h1 (gf := 72) (lb := #[.pointer (some ⟨w.heap.size + 1, 0, none⟩)]) rfl trivial (enters_of Tryz.func72 (by kernel_rfl) rfl) ?_
  intro r hr1 hr2 hr3 hr4 hr5 hr6 hr7
  have hbb : Below W0.heap.size W0 ((W0.alloc (.deferred (some []))).alloc (.loop r)) := ((Below.refl _ W0).alloc (Nat.le_refl _) _).alloc (by simp) _
  have hwb := HT3.out.trans (hbb.mono HT3.out.size)
  have hK0 : LyS w0 w B v1 v2 n es bs P q d w.heap.size (w.heap.size + 1) W0.heap.size (W0.heap.size + 1) 0 ((W0.alloc (.deferred (some []))).alloc (.loop r)) :=
    ⟨Fr.of_below hwb, HT1.out.below hbb, HT2.out.below hbb, (Below.heap_alloc _ _ _ (by simp)).trans (World.alloc_heap_new W0 _), v1, .inl rfl, by rw [List.take_zero, show es ++ flatK [] = es from List.append_nil es, Nat.add_zero]; exact HS.out.below hwb⟩
  have hL0 : ((W0.alloc (.deferred (some []))).alloc (.loop r)).heap[W0.heap.size + 1]? = some (.loop r) := by
    have := World.alloc_heap_new (W0.alloc (.deferred (some []))) (.loop r)
    rwa [World.size_alloc] at this
  refine (back_all (6 - 1) (by omega) (W0.heap.size + 1) (w.heap.size + 1) q d P (by omega)
    (fun k W => LyS w0 w B v1 v2 n es bs P q d w.heap.size (w.heap.size + 1) W0.heap.size (W0.heap.size + 1) k W ∧ W.heap[W0.heap.size + 1]? = some (.loop r))
    (fun k W hk h => ⟨h.1.p2, HEQ.out.keep (fun g o e hgl => h.1.low.same g hgl (fun ha => by
      have := HGG.out (by omega) g o e
      rcases ha with ha | ha
      · exact this.2 ha
      · exact this.1 ha))⟩) ?_ _ (HT2.out.below hbb) ⟨hK0, hL0⟩).mono ?_
  · rintro k W hk ⟨hKW, hL⟩
    refine yield_by hr5 hr6 hr3 hr4 hL hr1 rfl hr7 ?_
    have hpm : P[P.length - 1 - k]'(by omega) ∈ P := List.getElem_mem _
    have htk : P.reverse.take (k + 1) = P.reverse.take k ++ [P[P.length - 1 - k]'(by omega)] := by
      rw [List.take_succ_eq_append_getElem (by rw [List.length_reverse]; exact hk), List.getElem_reverse]
    generalize P[P.length - 1 - k]'(by omega) = p at hpm htk ⊢
    have HPM := hid (HP.out p hpm); have HTK := hid htk
    have HKW := hid hKW; have HL := hid hL
    obtain ⟨v1', hv', hsv⟩ := hKW.sv
    have HV' := hid hv'; have HSV := hid hsv
    obtain ⟨nk, hnk⟩ : ∃ nk, n + k = nk := ⟨_, rfl⟩
    obtain ⟨ek, hek⟩ : ∃ ek, es ++ flatK (P.reverse.take k) = ek := ⟨_, rfl⟩
    have hnk2 : nk ≤ 1073741824 := by omega
    rw [hnk, hek] at HSV
    have HNK := hid hnk; have HEK := hid hek
    clear hKW hL hr3 hr4 hr5 hr6 hK0 hL0 hbb hwb hpm htk hv' hsv hnk hek
    unfold eqA
    simp only [List.zip_toArray, List.zip_cons_cons, List.zip_nil_right, List.foldl_toArray, List.foldl_cons, List.foldl_nil, List.setIfInBounds_toArray, List.set_cons_succ, List.set_cons_zero]
    gi_wp2
    have hz := HZ0.out
    have hLW : W0.heap.size + 1 < W.heap.size := (Array.getElem?_eq_some_iff.1 HL.out).1
    have hbE := alloc_below0 W (.cells #[.string p.1.x.1, .int .i64 p.1.x.2, .slice p.1.a (lenF p.1.l) p.1.c, .string p.2.x.1, .int .i64 p.2.x.2, .slice p.2.a (lenF p.2.l) p.2.c] 28)
    have hxE := Box.new W 28 #[.string p.1.x.1, .int .i64 p.1.x.2, .slice p.1.a (lenF p.1.l) p.1.c, .string p.2.x.1, .int .i64 p.2.x.2, .slice p.2.a (lenF p.2.l) p.2.c]
    have hzE : (W.alloc (.cells #[.string p.1.x.1, .int .i64 p.1.x.2, .slice p.1.a (lenF p.1.l) p.1.c, .string p.2.x.1, .int .i64 p.2.x.2, .slice p.2.a (lenF p.2.l) p.2.c] 28)).heap.size = W.heap.size + 1 := by simp
    refine ⟨(hbE.block _ hLW).trans HL.out, ?_⟩
    have HE0 := hid hxE; have HBE := hid hbE; have HZE := hid hzE
    clear hbE hxE hzE
    generalize W.alloc (.cells #[.string p.1.x.1, .int .i64 p.1.x.2, .slice p.1.a (lenF p.1.l) p.1.c, .string p.2.x.1, .int .i64 p.2.x.2, .slice p.2.a (lenF p.2.l) p.2.c] 28) = EW at HE0 HBE HZE ⊢
    have hoth : ∀ b, b ≠ W0.heap.size + 1 → (EW.putObj (W0.heap.size + 1) (.loop { r with state := .busy })).heap[b]? = EW.heap[b]? := fun b hb => World.putObj_heap_other hb
    have HL2 : Hid ((EW.putObj (W0.heap.size + 1) (.loop { r with state := .busy })).heap[W0.heap.size + 1]? = some (.loop { r with state := .busy })) := hid (World.putObj_heap_same (by have := HZE.out; omega))
    have hvL : v1'.ownBlock ≠ some (W0.heap.size + 1) := fun e => by
      rcases HV'.out with h | h
      · have := hv1.out _ (h ▸ e); omega
      · have := h _ e; omega
    have hv2L : v2.ownBlock ≠ some (W0.heap.size + 1) := fun e => by have := hv2.out _ e; omega
    have hLE : EW.heap[W0.heap.size + 1]? = some (.loop r) := (HBE.out.block _ hLW).trans HL.out
    have hsv2 : Sv w0 B v1' v2 nk ek bs (EW.putObj (W0.heap.size + 1) (.loop { r with state := .busy })) := (HSV.out.below HBE.out).keep (fr_putO EW (W0.heap.size + 1) _) (fun b ob hb ho => by
        subst hb
        rw [hLE] at ho
        cases ho
        unfold S0
        rw [decide_eq_false (by omega)]
        rfl) (fun b hb => by omega) (by omega) (fun b hb e => hvL (by rw [hb, e])) (fun b hb e => hv2L (by rw [hb, e]))
    have hlow2 : Fr (fun b => v1.ownBlock = some b ∨ b = B) w (EW.putObj (W0.heap.size + 1) (.loop { r with state := .busy })) := fr_putl (HKW.out.low.trans (Fr.of_below HBE.out)) (by omega) _
    have HOTH := hid hoth
    have hWsz : W.heap.size < (EW.putObj (W0.heap.size + 1) (.loop { r with state := .busy })).heap.size := by
      have := (fr_putO EW (W0.heap.size + 1) (.loop { r with state := .busy })).low.size
      have := HZE.out
      omega
    have HWS := hid hWsz
    have HSV2 := hid hsv2; have HLOW2 := hid hlow2
    clear hoth hsv2 hlow2 hLE hWsz
    generalize EW.putObj (W0.heap.size + 1) (.loop { r with state := .busy }) = W2 at HOTH HL2 HSV2 HLOW2 HWS ⊢
    have HTM : Hid (∀ {x : ByteArray × Int} {a : Option Addr} {c : Nat} {l : Fo}, TmO (S0 w0.heap.size) w x a c l → TmO (S0 w0.heap.size) W2 x a c l) := hid fun ht => tmO_fr ht HLOW2.out (fun b ob hb ho => (HS.out.hid1 hb ho).2)
    have HP1 : Hid (Box W2 w.heap.size 94 #[.pointer (some ⟨B, 0, none⟩)]) := hid ((HOTH.out _ (by omega)).trans (HKW.out.p1.below HBE.out))
    have HP2 : Hid (Box W2 (w.heap.size + 1) 39 #[.slice q P.length d]) := hid ((HOTH.out _ (by omega)).trans (HKW.out.p2.below HBE.out))
    have HDF : Hid (W2.heap[W0.heap.size]? = some (.deferred (some []))) := hid ((HOTH.out _ (by omega)).trans ((HBE.out.block _ (by omega)).trans HKW.out.df))
    have HE2 : Hid (Box W2 W.heap.size 28 #[.string p.1.x.1, .int .i64 p.1.x.2, .slice p.1.a (lenF p.1.l) p.1.c, .string p.2.x.1, .int .i64 p.2.x.2, .slice p.2.a (lenF p.2.l) p.2.c]) := hid ((HOTH.out _ (by omega)).trans HE0.out)
    have HB2 : Hid (Box W2 B 72 #[v1', v2]) := hid HSV2.out.box
    have HRW : Hid (W2.ownsRow (B + 1) 28 6 v1' nk (kvCells ek)) := hid HSV2.out.r1
    have HNB : Hid (¬ v1'.ownBlock = some B) := hid (row_box HSV2.out.r1 HSV2.out.box (by decide))
    have hneW : ∀ g, v1'.ownBlock = some g → g ≠ w.heap.size ∧ g ≠ W.heap.size ∧ g ≠ w.heap.size + 1 ∧ g ≠ W0.heap.size ∧ g ≠ W0.heap.size + 1 := fun g e => by
      have hgW : g < W.heap.size := (HSV.out.r1.lt g e).2
      rcases HV'.out with h | h
      · have := hv1.out g (h ▸ e); omega
      · have := h g e; omega
    have HNW := hid hneW
    have HPL : Hid (w.heap.size < W2.heap.size ∧ ¬ v1'.ownBlock = some w.heap.size ∧ W.heap.size < W2.heap.size ∧ ¬ v1'.ownBlock = some W.heap.size) := hid ⟨HP1.out.lt, fun e => (hneW _ e).1 rfl, HWS.out, fun e => (hneW _ e).2.1 rfl⟩
    have hB2 : B < W2.heap.size := HB2.out.lt
    clear HKW HL HSV hneW
    have HSS : Hid (∀ V : World, V.heap[w.heap.size]? = W2.heap[w.heap.size]? → V.heap[W.heap.size]? = W2.heap[W.heap.size]? → V.cell? ⟨w.heap.size, 0, none⟩ = some (.pointer (some ⟨B, 0, none⟩)) ∧ V.cell? ⟨W.heap.size, 0, none⟩ = some (.string p.1.x.1) ∧ V.cell? ⟨W.heap.size, 1, none⟩ = some (.int .i64 p.1.x.2) ∧ V.cell? ⟨W.heap.size, 2, none⟩ = some (.slice p.1.a (lenF p.1.l) p.1.c) ∧ V.cell? ⟨W.heap.size, 3, none⟩ = some (.string p.2.x.1) ∧ V.cell? ⟨W.heap.size, 4, none⟩ = some (.int .i64 p.2.x.2) ∧ V.cell? ⟨W.heap.size, 5, none⟩ = some (.slice p.2.a (lenF p.2.l) p.2.c)) := hid (fun V hV hV2 => by
      have b1 : Box V w.heap.size 94 #[.pointer (some ⟨B, 0, none⟩)] := hV.trans HP1.out
      have b2 : Box V W.heap.size 28 #[.string p.1.x.1, .int .i64 p.1.x.2, .slice p.1.a (lenF p.1.l) p.1.c, .string p.2.x.1, .int .i64 p.2.x.2, .slice p.2.a (lenF p.2.l) p.2.c] := hV2.trans HE2.out
      exact ⟨b1.c 0, b2.c 0, b2.c 1, b2.c 2, b2.c 3, b2.c 4, b2.c 5⟩)
    have HSX : Hid (∀ V : World, V.heap[w.heap.size]? = W2.heap[w.heap.size]? → V.heap[W.heap.size]? = W2.heap[W.heap.size]? → ∀ u : Value, (V.setCell ⟨B, 0, none⟩ u).cell? ⟨w.heap.size, 0, none⟩ = some (.pointer (some ⟨B, 0, none⟩)) ∧ (V.setCell ⟨B, 0, none⟩ u).cell? ⟨W.heap.size, 0, none⟩ = some (.string p.1.x.1) ∧ (V.setCell ⟨B, 0, none⟩ u).cell? ⟨W.heap.size, 1, none⟩ = some (.int .i64 p.1.x.2) ∧ (V.setCell ⟨B, 0, none⟩ u).cell? ⟨W.heap.size, 2, none⟩ = some (.slice p.1.a (lenF p.1.l) p.1.c) ∧ (V.setCell ⟨B, 0, none⟩ u).cell? ⟨W.heap.size, 3, none⟩ = some (.string p.2.x.1) ∧ (V.setCell ⟨B, 0, none⟩ u).cell? ⟨W.heap.size, 4, none⟩ = some (.int .i64 p.2.x.2) ∧ (V.setCell ⟨B, 0, none⟩ u).cell? ⟨W.heap.size, 5, none⟩ = some (.slice p.2.a (lenF p.2.l) p.2.c)) := hid (fun V hV hV2 u => by
      have b1 : Box (V.setCell ⟨B, 0, none⟩ u) w.heap.size 94 #[.pointer (some ⟨B, 0, none⟩)] := (set_far (by omega) _ _).trans (hV.trans HP1.out)
      have b2 : Box (V.setCell ⟨B, 0, none⟩ u) W.heap.size 28 #[.string p.1.x.1, .int .i64 p.1.x.2, .slice p.1.a (lenF p.1.l) p.1.c, .string p.2.x.1, .int .i64 p.2.x.2, .slice p.2.a (lenF p.2.l) p.2.c] := (set_far (by omega) _ _).trans (hV2.trans HE2.out)
      exact ⟨b1.c 0, b2.c 0, b2.c 1, b2.c 2, b2.c 3, b2.c 4, b2.c 5⟩)
    obtain ⟨i0, hi, hz1, hz2, hz3⟩ := info_parts Tryz.info28
    gi_wp2_with fail
    refine wpIn_mono (Q := fun e a' w' => e = .normal ∧ ∃ g3 cap3 w3, w' = w3.setCell ⟨B, 0, none⟩ (.slice (some ⟨g3, 0, none⟩) (nk + 1) cap3) ∧ Fr (fun b => v1'.ownBlock = some b) W2 w3 ∧ (v1'.ownBlock = some g3 ∨ W2.heap.size ≤ g3) ∧ Box w3 B 72 #[v1', v2] ∧ w3.ownsRow (B + 1) 28 6 (.slice (some ⟨g3, 0, none⟩) (nk + 1) cap3) (nk + 1) (kvCells ek ++ kvCells [p.1, p.2])) ?first ?rest
    case first =>
      refine wpIn_region_held (fun V => V.cell? ⟨w.heap.size, 0, none⟩ = some (.pointer (some ⟨B, 0, none⟩)) ∧ V.cell? ⟨W.heap.size, 0, none⟩ = some (.string p.1.x.1) ∧ V.cell? ⟨W.heap.size, 1, none⟩ = some (.int .i64 p.1.x.2) ∧ V.cell? ⟨W.heap.size, 2, none⟩ = some (.slice p.1.a (lenF p.1.l) p.1.c) ∧ V.cell? ⟨W.heap.size, 3, none⟩ = some (.string p.2.x.1) ∧ V.cell? ⟨W.heap.size, 4, none⟩ = some (.int .i64 p.2.x.2) ∧ V.cell? ⟨W.heap.size, 5, none⟩ = some (.slice p.2.a (lenF p.2.l) p.2.c)) (by kernel_rfl) (by kernel_rfl) (by rintro ⟨_, _, h, _⟩; cases h) (HSS.out _ rfl rfl) ?_
      intro hS
      refine wpAnyH_take (i := 0) (v := (.pointer (some ⟨B, 0, none⟩))) rfl (by kernel_rfl) (by kernel_rfl) (by kernel_rfl) (fun _ _ _ h => by cases h.1) (Or.inl ⟨by rfl, fun w' hw' => ?_⟩) hS ?_
      · have y0 := hw'.1; go_simp
      simp only [Act.put, List.getElem_toArray, List.getElem_cons_zero, List.setIfInBounds_toArray, List.set_cons_zero, List.set_cons_succ]
      refine wpAnyH_take (i := 1) (v := (.pointer (some ⟨B, 0, none⟩))) rfl (by kernel_rfl) (by kernel_rfl) (by kernel_rfl) (fun _ _ _ h => by cases h.1) (Or.inl ⟨by rfl, fun w' hw' => ?_⟩) hS ?_
      · have y0 := hw'.1; go_simp
      simp only [Act.put, List.getElem_toArray, List.getElem_cons_zero, List.getElem_cons_succ, List.setIfInBounds_toArray, List.set_cons_zero, List.set_cons_succ]
      refine wpAnyH_take (i := 2) (v := (.pointer (some ⟨B, 0, none⟩))) rfl (by kernel_rfl) (by kernel_rfl) (by kernel_rfl) (fun _ _ _ h => by cases h.1) (Or.inl ⟨by rfl, fun w' hw' => ?_⟩) hS ?_
      · go_simp
      simp only [Act.put, List.getElem_toArray, List.getElem_cons_zero, List.getElem_cons_succ, List.setIfInBounds_toArray, List.set_cons_zero, List.set_cons_succ]
      refine wpAnyH_take (i := 3) (v := (.pointer (some ⟨B, 0, none⟩))) rfl (by kernel_rfl) (by kernel_rfl) (by kernel_rfl) (fun _ _ _ h => by cases h.1) (Or.inl ⟨by rfl, fun w' hw' => ?_⟩) hS ?_
      · go_simp
      simp only [Act.put, List.getElem_toArray, List.getElem_cons_zero, List.getElem_cons_succ, List.setIfInBounds_toArray, List.set_cons_zero, List.set_cons_succ]
      refine wpAnyH_take (i := 5) (v := (.agg #[.string p.1.x.1, .int .i64 p.1.x.2, .slice p.1.a (lenF p.1.l) p.1.c, .string p.2.x.1, .int .i64 p.2.x.2, .slice p.2.a (lenF p.2.l) p.2.c])) rfl (by kernel_rfl) (by kernel_rfl) (by kernel_rfl) (fun _ _ _ h => by cases h.1) (Or.inl ⟨by rfl, fun w' hw' => ?_⟩) hS ?_
      · obtain ⟨_, y0, y1, y2, y3, y4, y5⟩ := hw'; go_simp
      simp only [Act.put, List.getElem_toArray, List.getElem_cons_zero, List.getElem_cons_succ, List.setIfInBounds_toArray, List.set_cons_zero, List.set_cons_succ]
      refine wpAnyH_ready (rs := [4, 6]) (by kernel_rfl) (by simp) ?_
      refine AllReadyH.cons rfl (fun K hK => ?_) (AllReadyH.cons rfl (fun K hK => ?_) AllReadyH.nil)
      · have bq : W2.drew.cell? ⟨B, 0, none⟩ = some v1' := HB2.out.c 0
        go_simp
        refine hK.out _ _ hS (fun hS => ?_)
        clear hK K
        refine wpAnyH_ready (rs := [6]) (by kernel_rfl) (by simp) ?_
        refine AllReadyH.cons rfl (fun K hK => ?_) AllReadyH.nil
        go_simp
        refine hK.out _ _ (HSS.out _ ((((Below.refl _ W2).alloc (Nat.le_refl _) (.cells #[.string p.1.x.1, .int .i64 p.1.x.2, .slice p.1.a (lenF p.1.l) p.1.c, .string p.2.x.1, .int .i64 p.2.x.2, .slice p.2.a (lenF p.2.l) p.2.c] 28)).drew).block _ HPL.out.1) ((((Below.refl _ W2).alloc (Nat.le_refl _) (.cells #[.string p.1.x.1, .int .i64 p.1.x.2, .slice p.1.a (lenF p.1.l) p.1.c, .string p.2.x.1, .int .i64 p.2.x.2, .slice p.2.a (lenF p.2.l) p.2.c] 28)).drew).block _ HPL.out.2.2.1)) (fun hS => ?_)
        clear hK K
        refine wpAnyH_ready (rs := [7]) (by kernel_rfl) (by simp) ?_
        refine AllReadyH.cons rfl (fun K hK => ?_) AllReadyH.nil
        refine step_append_lies _ (by rfl) _ _ 39 (by rfl) (B + 1) 28 i0 _ 6 96 Tryz.underlying39 hi hz1 hz2 hz3 rfl (by decide) v1' nk (kvCells ek) (by rfl) (owns_below HRW.out (((Below.refl _ W2).alloc (Nat.le_refl _) _).drew)) ⟨W2.heap.size, 0, none⟩ 1 1 (kvCells [p.1, p.2]) (by rfl) rfl (World.news_of_block (Box.new W2 28 #[.string p.1.x.1, .int .i64 p.1.x.2, .slice p.1.a (lenF p.1.l) p.1.c, .string p.2.x.1, .int .i64 p.2.x.2, .slice p.2.a (lenF p.2.l) p.2.c])) (six_one p.1 p.2) (by decide) (by unfold maxLen; omega) (by omega) (by simp; omega) _ rfl ?_
        intro g3 cap3 w3 hown3 hgrow3 hat3 hlt3
        have hf3 : Fr (fun b => v1'.ownBlock = some b) W2 w3 := (Fr.of_below (((Below.refl _ W2).alloc (Nat.le_refl _) _).drew)).trans (fr_grown hgrow3)
        have hat4 : v1'.ownBlock = some g3 ∨ W2.heap.size ≤ g3 := hat3.imp_right (fun e => by rw [e]; simp)
        have bx3 : Box w3 B 72 #[v1', v2] := (hf3.same B HB2.out.lt HNB.out).trans HB2.out
        have v0 := bx3.c 0
        have e0 := bx3.f 0
        refine hK.out _ _ (HSS.out _ (hf3.same _ HPL.out.1 HPL.out.2.1) (hf3.same _ HPL.out.2.2.1 HPL.out.2.2.2)) (fun hS => ?_)
        clear hK K
        simp only [Act.put, List.getElem_toArray, List.getElem_cons_zero, List.getElem_cons_succ, List.setIfInBounds_toArray, List.set_cons_zero, List.set_cons_succ]
        refine wpAnyH_take (i := 8) (v := (.pointer (some ⟨B, 0, none⟩))) rfl (by kernel_rfl) (by kernel_rfl) (by kernel_rfl) (fun _ _ _ h => by cases h.1) (Or.inl ⟨by rfl, fun w' hw' => ?_⟩) hS ?_
        · go_simp
        simp only [Act.put, List.getElem_toArray, List.getElem_cons_zero, List.getElem_cons_succ, List.setIfInBounds_toArray, List.set_cons_zero, List.set_cons_succ]
        refine wpAnyH_take (i := 9) (v := (.pointer (some ⟨B, 0, none⟩))) rfl (by kernel_rfl) (by kernel_rfl) (by kernel_rfl) (fun _ _ _ h => by cases h.1) (Or.inl ⟨by rfl, fun w' hw' => ?_⟩) hS ?_
        · go_simp
        simp only [Act.put, List.getElem_toArray, List.getElem_cons_zero, List.getElem_cons_succ, List.setIfInBounds_toArray, List.set_cons_zero, List.set_cons_succ]
        refine wpAnyH_ready (rs := [10]) (by kernel_rfl) (by simp) ?_
        refine AllReadyH.cons rfl (fun K hK => ?_) AllReadyH.nil
        go_simp
        refine hK.out _ _ (HSX.out w3 (hf3.same _ HPL.out.1 HPL.out.2.1) (hf3.same _ HPL.out.2.2.1 HPL.out.2.2.2) _) (fun hS => ?_)
        clear hK K
        refine wpAnyH_done (by kernel_rfl) ?_ _
        exact ⟨rfl, g3, cap3, w3, rfl, hf3, hat4, bx3, hown3⟩
      · go_simp
        refine hK.out _ _ (HSS.out _ ((((Below.refl _ W2).alloc (Nat.le_refl _) (.cells #[.string p.1.x.1, .int .i64 p.1.x.2, .slice p.1.a (lenF p.1.l) p.1.c, .string p.2.x.1, .int .i64 p.2.x.2, .slice p.2.a (lenF p.2.l) p.2.c] 28)).drew).block _ HPL.out.1) ((((Below.refl _ W2).alloc (Nat.le_refl _) (.cells #[.string p.1.x.1, .int .i64 p.1.x.2, .slice p.1.a (lenF p.1.l) p.1.c, .string p.2.x.1, .int .i64 p.2.x.2, .slice p.2.a (lenF p.2.l) p.2.c] 28)).drew).block _ HPL.out.2.2.1)) (fun hS => ?_)
        clear hK K
        refine wpAnyH_ready (rs := [4]) (by kernel_rfl) (by simp) ?_
        refine AllReadyH.cons rfl (fun K hK => ?_) AllReadyH.nil
        have bq : (W2.alloc (.cells #[.string p.1.x.1, .int .i64 p.1.x.2, .slice p.1.a (lenF p.1.l) p.1.c, .string p.2.x.1, .int .i64 p.2.x.2, .slice p.2.a (lenF p.2.l) p.2.c] 28)).drew.cell? ⟨B, 0, none⟩ = some v1' := (HB2.out.over (.cells #[.string p.1.x.1, .int .i64 p.1.x.2, .slice p.1.a (lenF p.1.l) p.1.c, .string p.2.x.1, .int .i64 p.2.x.2, .slice p.2.a (lenF p.2.l) p.2.c] 28)).c 0
        go_simp
        refine hK.out _ _ hS (fun hS => ?_)
        clear hK K
        refine wpAnyH_ready (rs := [7]) (by kernel_rfl) (by simp) ?_
        refine AllReadyH.cons rfl (fun K hK => ?_) AllReadyH.nil
        refine step_append_lies _ (by rfl) _ _ 39 (by rfl) (B + 1) 28 i0 _ 6 96 Tryz.underlying39 hi hz1 hz2 hz3 rfl (by decide) v1' nk (kvCells ek) (by rfl) (owns_below HRW.out (((Below.refl _ W2).alloc (Nat.le_refl _) _).drew)) ⟨W2.heap.size, 0, none⟩ 1 1 (kvCells [p.1, p.2]) (by rfl) rfl (World.news_of_block (Box.new W2 28 #[.string p.1.x.1, .int .i64 p.1.x.2, .slice p.1.a (lenF p.1.l) p.1.c, .string p.2.x.1, .int .i64 p.2.x.2, .slice p.2.a (lenF p.2.l) p.2.c])) (six_one p.1 p.2) (by decide) (by unfold maxLen; omega) (by omega) (by simp; omega) _ rfl ?_
        intro g3 cap3 w3 hown3 hgrow3 hat3 hlt3
        have hf3 : Fr (fun b => v1'.ownBlock = some b) W2 w3 := (Fr.of_below (((Below.refl _ W2).alloc (Nat.le_refl _) _).drew)).trans (fr_grown hgrow3)
        have hat4 : v1'.ownBlock = some g3 ∨ W2.heap.size ≤ g3 := hat3.imp_right (fun e => by rw [e]; simp)
        have bx3 : Box w3 B 72 #[v1', v2] := (hf3.same B HB2.out.lt HNB.out).trans HB2.out
        have v0 := bx3.c 0
        have e0 := bx3.f 0
        refine hK.out _ _ (HSS.out _ (hf3.same _ HPL.out.1 HPL.out.2.1) (hf3.same _ HPL.out.2.2.1 HPL.out.2.2.2)) (fun hS => ?_)
        clear hK K
        simp only [Act.put, List.getElem_toArray, List.getElem_cons_zero, List.getElem_cons_succ, List.setIfInBounds_toArray, List.set_cons_zero, List.set_cons_succ]
        refine wpAnyH_take (i := 8) (v := (.pointer (some ⟨B, 0, none⟩))) rfl (by kernel_rfl) (by kernel_rfl) (by kernel_rfl) (fun _ _ _ h => by cases h.1) (Or.inl ⟨by rfl, fun w' hw' => ?_⟩) hS ?_
        · go_simp
        simp only [Act.put, List.getElem_toArray, List.getElem_cons_zero, List.getElem_cons_succ, List.setIfInBounds_toArray, List.set_cons_zero, List.set_cons_succ]
        refine wpAnyH_take (i := 9) (v := (.pointer (some ⟨B, 0, none⟩))) rfl (by kernel_rfl) (by kernel_rfl) (by kernel_rfl) (fun _ _ _ h => by cases h.1) (Or.inl ⟨by rfl, fun w' hw' => ?_⟩) hS ?_
        · go_simp
        simp only [Act.put, List.getElem_toArray, List.getElem_cons_zero, List.getElem_cons_succ, List.setIfInBounds_toArray, List.set_cons_zero, List.set_cons_succ]
        refine wpAnyH_ready (rs := [10]) (by kernel_rfl) (by simp) ?_
        refine AllReadyH.cons rfl (fun K hK => ?_) AllReadyH.nil
        go_simp
        refine hK.out _ _ (HSX.out w3 (hf3.same _ HPL.out.1 HPL.out.2.1) (hf3.same _ HPL.out.2.2.1 HPL.out.2.2.2) _) (fun hS => ?_)
        clear hK K
        refine wpAnyH_done (by kernel_rfl) ?_ _
        exact ⟨rfl, g3, cap3, w3, rfl, hf3, hat4, bx3, hown3⟩
    case rest =>
      rintro e a' w' ⟨rfl, g3, cap3, w3, rfl, hf3, hat3, hbx3, hown3⟩
      have hLs : W0.heap.size + 1 < W2.heap.size := (Array.getElem?_eq_some_iff.1 HL2.out).1
      have hg3B : B + 1 ≤ g3 := (owns_cells hown3 (g := g3) rfl).1
      have hof : ∀ b, b ≠ B → (w3.setCell ⟨B, 0, none⟩ (.slice (some ⟨g3, 0, none⟩) (nk + 1) cap3)).heap[b]? = w3.heap[b]? := fun b hb => set_far hb _ _
      have hfr3 : Fr (fun b => v1'.ownBlock = some b ∨ b = B) W2 (w3.setCell ⟨B, 0, none⟩ (.slice (some ⟨g3, 0, none⟩) (nk + 1) cap3)) := fr_set1 (A := fun b => v1'.ownBlock = some b ∨ b = B) (hf3.mono (fun b hb => .inl hb)) (.inr rfl) 0 _
      have hsv3 : Sv w0 B (.slice (some ⟨g3, 0, none⟩) (nk + 1) cap3) v2 (nk + 1) (ek ++ [p.1, p.2]) bs (w3.setCell ⟨B, 0, none⟩ (.slice (some ⟨g3, 0, none⟩) (nk + 1) cap3)) :=
        HSV2.out.lay hfr3 (hbx3.set 0 _) (owns_block hown3 (fun b hb => by
          have e2 : some g3 = some b := hb
          have := Option.some.inj e2
          exact hof b (by omega))) (HTM.out HPM.out.1) (HTM.out HPM.out.2)
      have hne5 := HNW.out
      have hk1 : ∀ b, b < W2.heap.size → ¬ v1'.ownBlock = some b → b ≠ B → (w3.setCell ⟨B, 0, none⟩ (.slice (some ⟨g3, 0, none⟩) (nk + 1) cap3)).heap[b]? = W2.heap[b]? := fun b hb h2 h3 => (hof b h3).trans (hf3.same b hb h2)
      have hlow3 : Fr (fun b => v1.ownBlock = some b ∨ b = B) w (w3.setCell ⟨B, 0, none⟩ (.slice (some ⟨g3, 0, none⟩) (nk + 1) cap3)) := by
        refine ⟨HLOW2.out.low.trans hfr3.low, fun b hb hA => ?_⟩
        have hb2 : b < W2.heap.size := Nat.lt_of_lt_of_le hb HLOW2.out.low.size
        refine (hk1 b hb2 (fun e => ?_) (fun e => hA (.inr e))).trans (HLOW2.out.same b hb hA)
        rcases HV'.out with h | h
        · exact hA (.inl (h ▸ e))
        · have := h b e; omega
      have hnew : (Value.slice (some ⟨g3, 0, none⟩) (nk + 1) cap3).ownBlock = v1.ownBlock ∨ ∀ g, (Value.slice (some ⟨g3, 0, none⟩) (nk + 1) cap3).ownBlock = some g → W0.heap.size + 1 < g := by
        rcases hat3 with h | h
        · rcases HV'.out with h2 | h2
          · left
            rw [← h2, h]
            rfl
          · right
            intro g e
            have e2 : some g3 = some g := e
            rw [← Option.some.inj e2]
            exact h2 _ h
        · right
          intro g e
          have e2 : some g3 = some g := e
          have := Option.some.inj e2
          omega
      have hK3 : LyS w0 w B v1 v2 n es bs P q d w.heap.size (w.heap.size + 1) W0.heap.size (W0.heap.size + 1) (k + 1) (w3.setCell ⟨B, 0, none⟩ (.slice (some ⟨g3, 0, none⟩) (nk + 1) cap3)) :=
        ⟨hlow3, (hk1 _ HP1.out.lt HPL.out.2.1 (by omega)).trans HP1.out, (hk1 _ HP2.out.lt (fun e => (hne5 _ e).2.2.1 rfl) (by omega)).trans HP2.out, (hk1 _ (by omega) (fun e => (hne5 _ e).2.2.2.1 rfl) (by omega)).trans HDF.out, _, hnew, by
          rw [HTK.out, flatK_app, ← List.append_assoc, HEK.out, ← Nat.add_assoc, HNK.out]
          exact hsv3⟩
      have hL3 : (w3.setCell ⟨B, 0, none⟩ (.slice (some ⟨g3, 0, none⟩) (nk + 1) cap3)).heap[W0.heap.size + 1]? = some (.loop { r with state := .busy }) := (hk1 _ hLs (fun e => (hne5 _ e).2.2.2.2 rfl) (by omega)).trans HL2.out
      generalize w3.setCell ⟨B, 0, none⟩ (.slice (some ⟨g3, 0, none⟩) (nk + 1) cap3) = W5 at hK3 hL3 ⊢
      refine ⟨hL3, rfl, ?_⟩
      rw [loop_again hr1 hr2]
      exact ⟨hK3.put hL3 (by omega) (by omega) (by omega) (by omega) (by omega) (by omega) (fun e => by have := hv1.out _ e; omega) hv2L _, World.putObj_heap_same (Array.getElem?_eq_some_iff.1 hL3).1⟩
  · rintro e W ⟨⟨v, rfl⟩, hKW, hL⟩
    have hz := HZ0.out
    refine ⟨⟨v, rfl⟩, hKW.df, .inl ⟨hL, ?_⟩⟩
    have hv2L : v2.ownBlock ≠ some (W0.heap.size + 1) := fun e => by have := hv2.out _ e; omega
    have hK3 := hKW.put hL (by omega) (by omega) (by omega) (by omega) (by omega) (by omega) (fun e => by have := hv1.out _ e; omega) hv2L (.loop { r with state := .exhausted })
    have HK3 := hid hK3
    clear hKW hL hK3 hK0 hL0 hbb hwb hr1 hr2 hr3 hr4 hr5 hr6 hr7
    generalize W.putObj (W0.heap.size + 1) (.loop { r with state := .exhausted }) = W4 at HK3 ⊢
    gi_wp2
    refine ⟨by simp, .inl ⟨_, _, rfl, run_takeDeferred HK3.out.df, ?_⟩⟩
    obtain ⟨v1', hv', hsv⟩ := HK3.out.sv
    rw [List.take_of_length_le (by rw [List.length_reverse]; exact Nat.le_refl _)] at hsv
    refine ⟨_, results_none rfl _ _ _, ⟨_, rfl⟩, fr_putl HK3.out.low (by omega) _, v1', hsv.keep (fr_putO W4 W0.heap.size _) (fun b ob hb ho => ?_) (fun b hb => by omega) (by omega) (fun b hb e => ?_) (fun b hb e => by have := hv2.out b hb; omega)⟩
    · subst hb
      rw [HK3.out.df] at ho
      cases ho
      unfold S0
      rw [decide_eq_false (by omega)]
      rfl
    · rcases hv' with h | h
      · have := hv1.out b (h ▸ hb); omega
      · have := h b hb; omega
end Go.Proofs.YtfnfbljijkjkjaaGreat
