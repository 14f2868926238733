import Derived.Test.YtfnfbljijkjkjaaGreatKSoR
/- lay of one equation where there was none. -/
namespace Go.Proofs.YtfnfbljijkjkjaaGreat
open Go.RowKit Go.Shelf Go.Deep

attribute [local go_sem] Oper.semAt_some

/-- What lay keeps from its start on: its boxes, the list. -/
structure LyK (w : World) (B P1 P2 D : Nat) (bd : Value) (g c : Nat) (k1 k2 : Kv) (W : World) : Prop where
  low : Fr (fun q => q = B) w W
  p1 : Box W P1 94 #[.pointer (some ⟨B, 0, none⟩)]
  p2 : Box W P2 39 #[.slice (some ⟨g, 0, none⟩) 1 c]
  df : W.heap[D]? = some (.deferred (some []))
  cells : CellsAt W g [k1, k2]

theorem put_cells {W : World} {g L : Nat} {ks : List Kv} (h : CellsAt W g ks) (hg : g ≠ L) (o : Obj) : CellsAt (W.putObj L o) g ks := fun i u hu => (World.cell?_of_block (World.putObj_heap_other hg)).trans (h i u hu)
theorem fr_putl {A : Nat → Prop} {w W : World} (h : Fr A w W) {l : Nat} (hl : w.heap.size ≤ l) (o : Obj) : Fr A w (W.putObj l o) :=
  ⟨h.low.trans (below_putObj _ (Nat.zero_le _) _), fun q hq hA => (World.putObj_heap_other (by omega)).trans (h.same q hq hA)⟩
theorem LyK.put {w : World} {B P1 P2 D : Nat} {bd : Value} {g c : Nat} {k1 k2 : Kv} {W : World} (h : LyK w B P1 P2 D bd g c k1 k2 W) {L : Nat} (hl : w.heap.size ≤ L) (h1 : P1 ≠ L) (h2 : P2 ≠ L) (h3 : D ≠ L) (h4 : g ≠ L) (o : Obj) : LyK w B P1 P2 D bd g c k1 k2 (W.putObj L o) :=
  ⟨fr_putl h.low hl o, (World.putObj_heap_other h1).trans h.p1, (World.putObj_heap_other h2).trans h.p2, (World.putObj_heap_other h3).trans h.df, fun i u hu => (World.cell?_of_block (World.putObj_heap_other h4)).trans (h.cells i u hu)⟩
theorem six_one (k1 k2 : Kv) : ∀ u ∈ kvCells [k1, k2], u.oneCell' = true := by
  intro u hu
  have e : kvCells [k1, k2] = [.string k1.x.1, .int .i64 k1.x.2, .slice k1.a (lenF k1.l) k1.c, .string k2.x.1, .int .i64 k2.x.2, .slice k2.a (lenF k2.l) k2.c] := rfl
  rw [e] at hu
  simp only [List.mem_cons, List.not_mem_nil, or_false] at hu
  rcases hu with rfl | rfl | rfl | rfl | rfl | rfl <;> rfl
theorem owns_cell0 {w : World} {base e size g n cap : Nat} {xs : List Value} (h : w.ownsRow base e size (.slice (some ⟨g, 0, none⟩) n cap) n xs) {i : Nat} {u : Value} (hu : xs[i]? = some u) : w.cell? ⟨g, i, none⟩ = some u := by
  have := owns_at h i u hu
  rwa [Nat.zero_add] at this

set_option maxRecDepth 100000 in
set_option maxHeartbeats 4000000 in
theorem lay_one (B g c : Nat) (bd : Value) (w : World) (k1 k2 : Kv) (hB : Box w B 72 #[.slice none 0 0, bd]) (hg : CellsAt w g [k1, k2]) (hgB : g ≠ B) :
    Calls Tryz.prog 28 #[.pointer (some ⟨B, 0, none⟩), .slice (some ⟨g, 0, none⟩) 1 c] w fun e w' => (∃ v, e = .returned v) ∧ (∃ g2 c2, Box w' B 72 #[.slice (some ⟨g2, 0, none⟩) 1 c2, bd] ∧ 1 ≤ c2 ∧ w.heap.size ≤ g2 ∧ CellsAt w' g2 [k1, k2]) ∧ Fr (fun q => q = B) w w' := by
  refine (callsIn_wide (n := 6)).1 ?_
  have h1 : 1 ≤ 6 := by omega
  have HB := hid hB; have HG := hid hg
  have hlt := hB.lt
  clear hB hg
  refine callsIn_of_wp_marks Tryz.func28 rfl trivial ?_ rfl
  simp only [Tryz.ntmps28, List.size_toArray, List.length_cons, List.length_nil, Nat.reduceAdd, Nat.reduceSub, Array.replicate_succ, Array.replicate_zero, List.push_toArray, List.append_toArray, List.nil_append, List.cons_append]
  gi_wp2_with fail
  refine ⟨trivial, ?_⟩
  refine (callsIn_wide.2 (backward_any _ _ _ _)).mono ?_
  rintro e w' ⟨rfl, rfl⟩
  gi_wp2
  obtain ⟨W0, hW0⟩ : ∃ W0, (w.alloc (.cells #[.pointer (some ⟨B, 0, none⟩)] 94)).alloc (.cells #[.slice (some ⟨g, 0, none⟩) 1 c] 39) = W0 := ⟨_, rfl⟩
  obtain ⟨t1, t2, t3⟩ := two_new w #[.pointer (some ⟨B, 0, none⟩)] 94 #[.slice (some ⟨g, 0, none⟩) 1 c] 39
  have hz0 : W0.heap.size = w.heap.size + 2 := by rw [← hW0]; simp
  rw [hW0] at t1 t2 t3 ⊢
  have HT1 := hid t1; have HT2 := hid t2; have HT3 := hid t3; have HZ0 := hid hz0
  clear hW0 t1 t2 t3
  refine range_law rfl h1 (gf := 72) (lb := #[.pointer (some ⟨w.heap.size + 1, 0, none⟩)]) rfl trivial (enters_of Tryz.func72 (by kernel_rfl) rfl) ?_
  intro r hr1 hr2 hr3 hr4 hr5 hr6 hr7
  have hbb : Below W0.heap.size W0 ((W0.alloc (.deferred (some []))).alloc (.loop r)) := ((Below.refl _ W0).alloc (Nat.le_refl _) _).alloc (by simp) _
  have hwb := HT3.out.trans (hbb.mono HT3.out.size)
  have hK0 : LyK w B w.heap.size (w.heap.size + 1) W0.heap.size bd g c k1 k2 ((W0.alloc (.deferred (some []))).alloc (.loop r)) :=
    ⟨Fr.of_below hwb, HT1.out.below hbb, HT2.out.below hbb, (Below.heap_alloc _ _ _ (by simp)).trans (World.alloc_heap_new W0 _), fun i u hu => below_cell hwb _ _ (HG.out i u hu)⟩
  have hL0 : ((W0.alloc (.deferred (some []))).alloc (.loop r)).heap[W0.heap.size + 1]? = some (.loop r) := by
    have := World.alloc_heap_new (W0.alloc (.deferred (some []))) (.loop r)
    rwa [World.size_alloc] at this
  have hB0 := HB.out.below hwb
  refine (back_one (6 - 1) (by omega) (W0.heap.size + 1) (w.heap.size + 1) g c k1 k2
    (fun W => LyK w B w.heap.size (w.heap.size + 1) W0.heap.size bd g c k1 k2 W ∧ W.heap[W0.heap.size + 1]? = some (.loop r) ∧ Box W B 72 #[.slice none 0 0, bd])
    (fun W => LyK w B w.heap.size (w.heap.size + 1) W0.heap.size bd g c k1 k2 W ∧ W.heap[W0.heap.size + 1]? = some (.loop r) ∧ ∃ g2 c2, Box W B 72 #[.slice (some ⟨g2, 0, none⟩) 1 c2, bd] ∧ 1 ≤ c2 ∧ w.heap.size + 4 ≤ g2 ∧ CellsAt W g2 [k1, k2])
    (fun W h => ⟨h.1.p2, h.1.cells⟩) ?_ _ ⟨hK0, hL0, hB0⟩).mono ?_
  · rintro W ⟨hKW, hL, hBW⟩
    refine yield_by hr5 hr6 hr3 hr4 hL hr1 rfl hr7 ?_
    have HKW := hid hKW; have HL := hid hL; have HBW := hid hBW
    clear hKW hL hBW hr3 hr4 hr5 hr6 hK0 hL0 hB0 hbb hwb
    simp only [List.zip_toArray, List.zip_cons_cons, List.zip_nil_right, List.foldl_toArray, List.foldl_cons, List.foldl_nil, List.setIfInBounds_toArray, List.set_cons_succ, List.set_cons_zero]
    gi_wp2
    have hgl : g < w.heap.size := World.block_lt_of_cell? w ⟨g, 0, none⟩ (HG.out 0 (.string k1.x.1) rfl)
    have hz := HZ0.out
    have hLW : W0.heap.size + 1 < W.heap.size := (Array.getElem?_eq_some_iff.1 HL.out).1
    have hbE := alloc_below0 W (.cells #[.string k1.x.1, .int .i64 k1.x.2, .slice k1.a (lenF k1.l) k1.c, .string k2.x.1, .int .i64 k2.x.2, .slice k2.a (lenF k2.l) k2.c] 28)
    have hxE := Box.new W 28 #[.string k1.x.1, .int .i64 k1.x.2, .slice k1.a (lenF k1.l) k1.c, .string k2.x.1, .int .i64 k2.x.2, .slice k2.a (lenF k2.l) k2.c]
    have hzE : (W.alloc (.cells #[.string k1.x.1, .int .i64 k1.x.2, .slice k1.a (lenF k1.l) k1.c, .string k2.x.1, .int .i64 k2.x.2, .slice k2.a (lenF k2.l) k2.c] 28)).heap.size = W.heap.size + 1 := by simp
    refine ⟨(hbE.block _ hLW).trans HL.out, ?_⟩
    have HE0 := hid hxE; have HBE := hid hbE; have HZE := hid hzE
    clear hbE hxE hzE
    generalize W.alloc (.cells #[.string k1.x.1, .int .i64 k1.x.2, .slice k1.a (lenF k1.l) k1.c, .string k2.x.1, .int .i64 k2.x.2, .slice k2.a (lenF k2.l) k2.c] 28) = EW at HE0 HBE HZE ⊢
    have hoth : ∀ q, q ≠ W0.heap.size + 1 → (EW.putObj (W0.heap.size + 1) (.loop { r with state := .busy })).heap[q]? = EW.heap[q]? := fun q hq => World.putObj_heap_other hq
    have HL2 : Hid ((EW.putObj (W0.heap.size + 1) (.loop { r with state := .busy })).heap[W0.heap.size + 1]? = some (.loop { r with state := .busy })) := hid (World.putObj_heap_same (by have := HZE.out; omega))
    have hfr2 : Fr (fun q => q = B) w (EW.putObj (W0.heap.size + 1) (.loop { r with state := .busy })) :=
      ⟨(HKW.out.low.trans (Fr.of_below HBE.out)).low.trans (below_putObj _ (Nat.zero_le _) _), fun q hq hA => (hoth q (by omega)).trans ((HKW.out.low.trans (Fr.of_below HBE.out)).same q hq hA)⟩
    have HOTH := hid hoth
    clear hoth
    generalize EW.putObj (W0.heap.size + 1) (.loop { r with state := .busy }) = W2 at HOTH HL2 hfr2 ⊢
    have hcg : CellsAt W2 g [k1, k2] := fun i u hu => (World.cell?_of_block (HOTH.out g (by omega))).trans (below_cell HBE.out _ _ (HKW.out.cells i u hu))
    have HK2 : Hid (LyK w B w.heap.size (w.heap.size + 1) W0.heap.size bd g c k1 k2 W2) := hid ⟨hfr2, (HOTH.out _ (by omega)).trans (HKW.out.p1.below HBE.out), (HOTH.out _ (by omega)).trans (HKW.out.p2.below HBE.out), (HOTH.out _ (by omega)).trans ((HBE.out.block _ (by omega)).trans HKW.out.df), hcg⟩
    have HB2 : Hid (Box W2 B 72 #[.slice none 0 0, bd]) := hid ((HOTH.out _ (by omega)).trans (HBW.out.below HBE.out))
    have HE2 : Hid (Box W2 W.heap.size 28 #[.string k1.x.1, .int .i64 k1.x.2, .slice k1.a (lenF k1.l) k1.c, .string k2.x.1, .int .i64 k2.x.2, .slice k2.a (lenF k2.l) k2.c]) := hid ((HOTH.out _ (by omega)).trans HE0.out)
    clear hfr2 hcg HKW HL HBW
    have HSS : Hid (∀ V, Below W2.heap.size W2 V → V.cell? ⟨w.heap.size, 0, none⟩ = some (.pointer (some ⟨B, 0, none⟩)) ∧ V.cell? ⟨W.heap.size, 0, none⟩ = some (.string k1.x.1) ∧ V.cell? ⟨W.heap.size, 1, none⟩ = some (.int .i64 k1.x.2) ∧ V.cell? ⟨W.heap.size, 2, none⟩ = some (.slice k1.a (lenF k1.l) k1.c) ∧ V.cell? ⟨W.heap.size, 3, none⟩ = some (.string k2.x.1) ∧ V.cell? ⟨W.heap.size, 4, none⟩ = some (.int .i64 k2.x.2) ∧ V.cell? ⟨W.heap.size, 5, none⟩ = some (.slice k2.a (lenF k2.l) k2.c)) := hid (fun V hV =>
      ⟨(HK2.out.p1.below hV).c 0, (HE2.out.below hV).c 0, (HE2.out.below hV).c 1, (HE2.out.below hV).c 2, (HE2.out.below hV).c 3, (HE2.out.below hV).c 4, (HE2.out.below hV).c 5⟩)
    have HSX : Hid (∀ V, Below W2.heap.size W2 V → ∀ u : Value, (V.setCell ⟨B, 0, none⟩ u).cell? ⟨w.heap.size, 0, none⟩ = some (.pointer (some ⟨B, 0, none⟩)) ∧ (V.setCell ⟨B, 0, none⟩ u).cell? ⟨W.heap.size, 0, none⟩ = some (.string k1.x.1) ∧ (V.setCell ⟨B, 0, none⟩ u).cell? ⟨W.heap.size, 1, none⟩ = some (.int .i64 k1.x.2) ∧ (V.setCell ⟨B, 0, none⟩ u).cell? ⟨W.heap.size, 2, none⟩ = some (.slice k1.a (lenF k1.l) k1.c) ∧ (V.setCell ⟨B, 0, none⟩ u).cell? ⟨W.heap.size, 3, none⟩ = some (.string k2.x.1) ∧ (V.setCell ⟨B, 0, none⟩ u).cell? ⟨W.heap.size, 4, none⟩ = some (.int .i64 k2.x.2) ∧ (V.setCell ⟨B, 0, none⟩ u).cell? ⟨W.heap.size, 5, none⟩ = some (.slice k2.a (lenF k2.l) k2.c)) := hid (fun V hV u =>
      ⟨((HK2.out.p1.below hV).far (by omega) 0 u).c 0, ((HE2.out.below hV).far (by omega) 0 u).c 0, ((HE2.out.below hV).far (by omega) 0 u).c 1, ((HE2.out.below hV).far (by omega) 0 u).c 2, ((HE2.out.below hV).far (by omega) 0 u).c 3, ((HE2.out.below hV).far (by omega) 0 u).c 4, ((HE2.out.below hV).far (by omega) 0 u).c 5⟩)
    obtain ⟨i0, hi, hz1, hz2, hz3⟩ := info_parts Tryz.info28
    gi_wp2_with fail
    refine wpIn_mono (Q := fun e a' w' => e = .normal ∧ ∃ g3 cap3 w3, w' = w3.setCell ⟨B, 0, none⟩ (.slice (some ⟨g3, 0, none⟩) 1 cap3) ∧ Below W2.heap.size W2 w3 ∧ W2.heap.size ≤ g3 ∧ 1 ≤ cap3 ∧ CellsAt w3 g3 [k1, k2]) ?first ?rest
    case first =>
      refine wpIn_region_held (fun V => V.cell? ⟨w.heap.size, 0, none⟩ = some (.pointer (some ⟨B, 0, none⟩)) ∧ V.cell? ⟨W.heap.size, 0, none⟩ = some (.string k1.x.1) ∧ V.cell? ⟨W.heap.size, 1, none⟩ = some (.int .i64 k1.x.2) ∧ V.cell? ⟨W.heap.size, 2, none⟩ = some (.slice k1.a (lenF k1.l) k1.c) ∧ V.cell? ⟨W.heap.size, 3, none⟩ = some (.string k2.x.1) ∧ V.cell? ⟨W.heap.size, 4, none⟩ = some (.int .i64 k2.x.2) ∧ V.cell? ⟨W.heap.size, 5, none⟩ = some (.slice k2.a (lenF k2.l) k2.c)) (by kernel_rfl) (by kernel_rfl) (by rintro ⟨_, _, h, _⟩; cases h) (HSS.out _ (Below.refl _ _).drew) ?_
      intro hS
      refine wpAnyH_take (i := 0) (v := (.pointer (some ⟨B, 0, none⟩))) rfl (by kernel_rfl) (by kernel_rfl) (by kernel_rfl) (fun _ _ _ h => by cases h.1) (Or.inl ⟨by rfl, fun w' hw' => ?_⟩) hS ?_
      · have y0 := hw'.1; go_simp
      simp only [Act.put, List.getElem_toArray, List.getElem_cons_zero, List.setIfInBounds_toArray, List.set_cons_zero, List.set_cons_succ]
      refine wpAnyH_take (i := 1) (v := (.pointer (some ⟨B, 0, none⟩))) rfl (by kernel_rfl) (by kernel_rfl) (by kernel_rfl) (fun _ _ _ h => by cases h.1) (Or.inl ⟨by rfl, fun w' hw' => ?_⟩) hS ?_
      · have y0 := hw'.1; go_simp
      simp only [Act.put, List.getElem_toArray, List.getElem_cons_zero, List.getElem_cons_succ, List.setIfInBounds_toArray, List.set_cons_zero, List.set_cons_succ]
      refine wpAnyH_take (i := 2) (v := (.pointer (some ⟨B, 0, none⟩))) rfl (by kernel_rfl) (by kernel_rfl) (by kernel_rfl) (fun _ _ _ h => by cases h.1) (Or.inl ⟨by rfl, fun w' hw' => ?_⟩) hS ?_
      · go_simp
      simp only [Act.put, List.getElem_toArray, List.getElem_cons_zero, List.getElem_cons_succ, List.setIfInBounds_toArray, List.set_cons_zero, List.set_cons_succ]
      refine wpAnyH_take (i := 3) (v := (.pointer (some ⟨B, 0, none⟩))) rfl (by kernel_rfl) (by kernel_rfl) (by kernel_rfl) (fun _ _ _ h => by cases h.1) (Or.inl ⟨by rfl, fun w' hw' => ?_⟩) hS ?_
      · go_simp
      simp only [Act.put, List.getElem_toArray, List.getElem_cons_zero, List.getElem_cons_succ, List.setIfInBounds_toArray, List.set_cons_zero, List.set_cons_succ]
      refine wpAnyH_take (i := 5) (v := (.agg #[.string k1.x.1, .int .i64 k1.x.2, .slice k1.a (lenF k1.l) k1.c, .string k2.x.1, .int .i64 k2.x.2, .slice k2.a (lenF k2.l) k2.c])) rfl (by kernel_rfl) (by kernel_rfl) (by kernel_rfl) (fun _ _ _ h => by cases h.1) (Or.inl ⟨by rfl, fun w' hw' => ?_⟩) hS ?_
      · obtain ⟨_, y0, y1, y2, y3, y4, y5⟩ := hw'; go_simp
      simp only [Act.put, List.getElem_toArray, List.getElem_cons_zero, List.getElem_cons_succ, List.setIfInBounds_toArray, List.set_cons_zero, List.set_cons_succ]
      refine wpAnyH_ready (rs := [4, 6]) (by kernel_rfl) (by simp) ?_
      refine AllReadyH.cons rfl (fun K hK => ?_) (AllReadyH.cons rfl (fun K hK => ?_) AllReadyH.nil)
      · have bq : W2.drew.cell? ⟨B, 0, none⟩ = some (.slice none 0 0) := HB2.out.c 0
        go_simp
        refine hK.out _ _ hS (fun hS => ?_)
        clear hK K
        refine wpAnyH_ready (rs := [6]) (by kernel_rfl) (by simp) ?_
        refine AllReadyH.cons rfl (fun K hK => ?_) AllReadyH.nil
        go_simp
        refine hK.out _ _ (HSS.out _ (((Below.refl _ W2).alloc (Nat.le_refl _) _).drew)) (fun hS => ?_)
        clear hK K
        refine wpAnyH_ready (rs := [7]) (by kernel_rfl) (by simp) ?_
        refine AllReadyH.cons rfl (fun K hK => ?_) AllReadyH.nil
        refine step_append_lies _ (by rfl) _ _ 39 (by rfl) W2.heap.size 28 i0 _ 6 96 Tryz.underlying39 hi hz1 hz2 hz3 rfl (by decide) (.slice none 0 0) 0 [] (by rfl) (World.ownsRow_nil _ _ _ _) ⟨W2.heap.size, 0, none⟩ 1 1 (kvCells [k1, k2]) (by rfl) rfl (World.news_of_block (Box.new W2 28 #[.string k1.x.1, .int .i64 k1.x.2, .slice k1.a (lenF k1.l) k1.c, .string k2.x.1, .int .i64 k2.x.2, .slice k2.a (lenF k2.l) k2.c])) (six_one k1 k2) (by decide) (by decide) (by decide) (by simp) _ rfl ?_
        intro g3 cap3 w3 hown3 hgrow3 hat3 hlt3
        have hb3 : Below W2.heap.size W2 w3 := (((Below.refl _ W2).alloc (Nat.le_refl _) _).drew).grown hgrow3 (by simp) (fun k e => by cases e)
        have bx3 := HB2.out.below hb3
        have v0 := bx3.c 0
        have e0 := bx3.f 0
        refine hK.out _ _ (HSS.out _ hb3) (fun hS => ?_)
        clear hK K
        simp only [Act.put, List.getElem_toArray, List.getElem_cons_zero, List.getElem_cons_succ, List.setIfInBounds_toArray, List.set_cons_zero, List.set_cons_succ]
        refine wpAnyH_take (i := 8) (v := (.pointer (some ⟨B, 0, none⟩))) rfl (by kernel_rfl) (by kernel_rfl) (by kernel_rfl) (fun _ _ _ h => by cases h.1) (Or.inl ⟨by rfl, fun w' hw' => ?_⟩) hS ?_
        · go_simp
        simp only [Act.put, List.getElem_toArray, List.getElem_cons_zero, List.getElem_cons_succ, List.setIfInBounds_toArray, List.set_cons_zero, List.set_cons_succ]
        refine wpAnyH_take (i := 9) (v := (.pointer (some ⟨B, 0, none⟩))) rfl (by kernel_rfl) (by kernel_rfl) (by kernel_rfl) (fun _ _ _ h => by cases h.1) (Or.inl ⟨by rfl, fun w' hw' => ?_⟩) hS ?_
        · go_simp
        simp only [Act.put, List.getElem_toArray, List.getElem_cons_zero, List.getElem_cons_succ, List.setIfInBounds_toArray, List.set_cons_zero, List.set_cons_succ]
        refine wpAnyH_ready (rs := [10]) (by kernel_rfl) (by simp) ?_
        refine AllReadyH.cons rfl (fun K hK => ?_) AllReadyH.nil
        go_simp
        refine hK.out _ _ (HSX.out w3 hb3 _) (fun hS => ?_)
        clear hK K
        refine wpAnyH_done (by kernel_rfl) ?_ _
        exact ⟨rfl, g3, cap3, w3, rfl, hb3, (owns_cells (g := g3) hown3 rfl).1, own_cap1 hown3, fun i u hu => owns_cell0 hown3 hu⟩
      · go_simp
        refine hK.out _ _ (HSS.out _ (((Below.refl _ W2).alloc (Nat.le_refl _) _).drew)) (fun hS => ?_)
        clear hK K
        refine wpAnyH_ready (rs := [4]) (by kernel_rfl) (by simp) ?_
        refine AllReadyH.cons rfl (fun K hK => ?_) AllReadyH.nil
        have bq : (W2.alloc (.cells #[.string k1.x.1, .int .i64 k1.x.2, .slice k1.a (lenF k1.l) k1.c, .string k2.x.1, .int .i64 k2.x.2, .slice k2.a (lenF k2.l) k2.c] 28)).drew.cell? ⟨B, 0, none⟩ = some (.slice none 0 0) := (HB2.out.over (.cells #[.string k1.x.1, .int .i64 k1.x.2, .slice k1.a (lenF k1.l) k1.c, .string k2.x.1, .int .i64 k2.x.2, .slice k2.a (lenF k2.l) k2.c] 28)).c 0
        go_simp
        refine hK.out _ _ hS (fun hS => ?_)
        clear hK K
        refine wpAnyH_ready (rs := [7]) (by kernel_rfl) (by simp) ?_
        refine AllReadyH.cons rfl (fun K hK => ?_) AllReadyH.nil
        refine step_append_lies _ (by rfl) _ _ 39 (by rfl) W2.heap.size 28 i0 _ 6 96 Tryz.underlying39 hi hz1 hz2 hz3 rfl (by decide) (.slice none 0 0) 0 [] (by rfl) (World.ownsRow_nil _ _ _ _) ⟨W2.heap.size, 0, none⟩ 1 1 (kvCells [k1, k2]) (by rfl) rfl (World.news_of_block (Box.new W2 28 #[.string k1.x.1, .int .i64 k1.x.2, .slice k1.a (lenF k1.l) k1.c, .string k2.x.1, .int .i64 k2.x.2, .slice k2.a (lenF k2.l) k2.c])) (six_one k1 k2) (by decide) (by decide) (by decide) (by simp) _ rfl ?_
        intro g3 cap3 w3 hown3 hgrow3 hat3 hlt3
        have hb3 : Below W2.heap.size W2 w3 := (((Below.refl _ W2).alloc (Nat.le_refl _) _).drew).grown hgrow3 (by simp) (fun k e => by cases e)
        have bx3 := HB2.out.below hb3
        have v0 := bx3.c 0
        have e0 := bx3.f 0
        refine hK.out _ _ (HSS.out _ hb3) (fun hS => ?_)
        clear hK K
        simp only [Act.put, List.getElem_toArray, List.getElem_cons_zero, List.getElem_cons_succ, List.setIfInBounds_toArray, List.set_cons_zero, List.set_cons_succ]
        refine wpAnyH_take (i := 8) (v := (.pointer (some ⟨B, 0, none⟩))) rfl (by kernel_rfl) (by kernel_rfl) (by kernel_rfl) (fun _ _ _ h => by cases h.1) (Or.inl ⟨by rfl, fun w' hw' => ?_⟩) hS ?_
        · go_simp
        simp only [Act.put, List.getElem_toArray, List.getElem_cons_zero, List.getElem_cons_succ, List.setIfInBounds_toArray, List.set_cons_zero, List.set_cons_succ]
        refine wpAnyH_take (i := 9) (v := (.pointer (some ⟨B, 0, none⟩))) rfl (by kernel_rfl) (by kernel_rfl) (by kernel_rfl) (fun _ _ _ h => by cases h.1) (Or.inl ⟨by rfl, fun w' hw' => ?_⟩) hS ?_
        · go_simp
        simp only [Act.put, List.getElem_toArray, List.getElem_cons_zero, List.getElem_cons_succ, List.setIfInBounds_toArray, List.set_cons_zero, List.set_cons_succ]
        refine wpAnyH_ready (rs := [10]) (by kernel_rfl) (by simp) ?_
        refine AllReadyH.cons rfl (fun K hK => ?_) AllReadyH.nil
        go_simp
        refine hK.out _ _ (HSX.out w3 hb3 _) (fun hS => ?_)
        clear hK K
        refine wpAnyH_done (by kernel_rfl) ?_ _
        exact ⟨rfl, g3, cap3, w3, rfl, hb3, (owns_cells (g := g3) hown3 rfl).1, own_cap1 hown3, fun i u hu => owns_cell0 hown3 hu⟩
    case rest =>
      rintro e a' w' ⟨rfl, g3, cap3, w3, rfl, hb3, hg3, hc3, hcs3⟩
      have hLs : W0.heap.size + 1 < W2.heap.size := (Array.getElem?_eq_some_iff.1 HL2.out).1
      have hne : g3 ≠ B := by omega
      have hne2 : W0.heap.size + 1 ≠ B := by omega
      have hBx : Box (w3.setCell ⟨B, 0, none⟩ (.slice (some ⟨g3, 0, none⟩) 1 cap3)) B 72 #[.slice (some ⟨g3, 0, none⟩) 1 cap3, bd] := (HB2.out.below hb3).set 0 _
      have hof : ∀ q, q ≠ B → (w3.setCell ⟨B, 0, none⟩ (.slice (some ⟨g3, 0, none⟩) 1 cap3)).heap[q]? = w3.heap[q]? := fun q hq => Below.heap_setCell w3 ⟨B, 0, none⟩ _ q hq
      have hfr3 : Fr (fun q => q = B) w (w3.setCell ⟨B, 0, none⟩ (.slice (some ⟨g3, 0, none⟩) 1 cap3)) := fr_set1 (A := fun q => q = B) (HK2.out.low.trans (Fr.of_below hb3)) rfl 0 _
      have hcs4 : CellsAt (w3.setCell ⟨B, 0, none⟩ (.slice (some ⟨g3, 0, none⟩) 1 cap3)) g3 [k1, k2] := fun i u hu => (World.cell?_of_block (hof g3 hne)).trans (hcs3 i u hu)
      have hcg4 : CellsAt (w3.setCell ⟨B, 0, none⟩ (.slice (some ⟨g3, 0, none⟩) 1 cap3)) g [k1, k2] := fun i u hu => (World.cell?_of_block (hof g hgB)).trans (below_cell hb3 _ _ (HK2.out.cells i u hu))
      have hK3 : LyK w B w.heap.size (w.heap.size + 1) W0.heap.size bd g c k1 k2 (w3.setCell ⟨B, 0, none⟩ (.slice (some ⟨g3, 0, none⟩) 1 cap3)) :=
        ⟨hfr3, (hof _ (by omega)).trans (HK2.out.p1.below hb3), (hof _ (by omega)).trans (HK2.out.p2.below hb3), (hof _ (by omega)).trans ((hb3.block _ (by omega)).trans HK2.out.df), hcg4⟩
      have hL3 : (w3.setCell ⟨B, 0, none⟩ (.slice (some ⟨g3, 0, none⟩) 1 cap3)).heap[W0.heap.size + 1]? = some (.loop { r with state := .busy }) := (hof _ hne2).trans ((hb3.block _ hLs).trans HL2.out)
      generalize w3.setCell ⟨B, 0, none⟩ (.slice (some ⟨g3, 0, none⟩) 1 cap3) = W5 at hBx hof hfr3 hcs4 hcg4 hK3 hL3 ⊢
      refine ⟨hL3, rfl, ?_⟩
      rw [loop_again hr1 hr2]
      exact ⟨hK3.put (by omega) (by omega) (by omega) (by omega) (by omega) _, World.putObj_heap_same (Array.getElem?_eq_some_iff.1 hL3).1, g3, cap3, (World.putObj_heap_other (by omega)).trans hBx, hc3, by omega, put_cells hcs4 (by omega) _⟩
  · rintro e W ⟨⟨v, rfl⟩, hKW, hL, g2, c2, hb2, hc2, hg2, hcs2⟩
    have hz := HZ0.out
    have hgl : g < w.heap.size := World.block_lt_of_cell? w ⟨g, 0, none⟩ (HG.out 0 (.string k1.x.1) rfl)
    refine ⟨⟨v, rfl⟩, hKW.df, .inl ⟨hL, ?_⟩⟩
    have hK3 := hKW.put (L := W0.heap.size + 1) (by omega) (by omega) (by omega) (by omega) (by omega) (.loop { r with state := .exhausted })
    have hB3 : Box (W.putObj (W0.heap.size + 1) (.loop { r with state := .exhausted })) B 72 #[.slice (some ⟨g2, 0, none⟩) 1 c2, bd] := (World.putObj_heap_other (by omega)).trans hb2
    have hC3 : CellsAt (W.putObj (W0.heap.size + 1) (.loop { r with state := .exhausted })) g2 [k1, k2] := put_cells hcs2 (by omega) _
    have HK3 := hid hK3; have HB3 := hid hB3; have HC3 := hid hC3
    clear hKW hL hb2 hcs2 hK3 hB3 hC3 hK0 hL0 hB0 hbb hwb hr1 hr2 hr3 hr4 hr5 hr6 hr7
    generalize W.putObj (W0.heap.size + 1) (.loop { r with state := .exhausted }) = W4 at HK3 HB3 HC3 ⊢
    gi_wp2
    refine ⟨by simp, .inl ⟨_, _, rfl, run_takeDeferred HK3.out.df, ?_⟩⟩
    refine ⟨_, results_none rfl _ _ _, ⟨_, rfl⟩, ⟨g2, c2, (World.putObj_heap_other (by omega)).trans HB3.out, hc2, by omega, put_cells HC3.out (by omega) _⟩, ?_⟩
    exact fr_putl HK3.out.low (by omega) _
end Go.Proofs.YtfnfbljijkjkjaaGreat
