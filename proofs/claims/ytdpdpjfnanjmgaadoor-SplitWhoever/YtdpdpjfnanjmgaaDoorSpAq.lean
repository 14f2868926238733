/- SplitWhoever's walk. -/
import Derived.Test.YtdpdpjfnanjmgaaDoorSpAr
namespace Go.Proofs.YtdpdpjfnanjmgaaDoor
open Go.RowKit Go.Shelf

attribute [local go_sem] Oper.semAt_some
set_option maxRecDepth 100000 in
set_option maxHeartbeats 8000000 in
theorem who_bad (a b : Option Addr) (c d : Nat) (m k : List Int) (e : Bool) (turn : Nat) (w : World) (hM : IntsAt w a m) (hK : IntsAt w b k) (hTab : Tab w) (h : chkE m k ≠ 0 ∨ k.length = 0) :
    Calls Tryd.prog 7 #[.agg #[.slice a m.length c, .slice b k.length d, .bool e], .int .u8 (turn : Int)] w fun en w' => en = .returned (.bool true) ∧ Below w.heap.size w w' := by
  obtain ⟨W1, hW1, hb, hx, hr, hs1⟩ := deal_boxes w #[.slice a m.length c, .slice b k.length d, .bool e]
  have HL := hid (lives_any W1 (hTab.below hb))
  have HB := hid hb; have HX := hid hx; have HR := hid hr; have HM := hid hM; have HK := hid hK
  obtain ⟨ck, hck⟩ : ∃ ck, chkE m k = ck := ⟨_, rfl⟩
  have HC := hid hck
  rw [hck] at h
  clear hb hx hr hM hK hTab hck hs1
  refine (callsIn_wide (n := 12)).1 ?_
  refine callsIn_of_wp_marks Tryd.func7 rfl trivial (wpIn_wide.2 ?_) rfl
  simp only [Tryd.ntmps7, List.size_toArray, List.length_cons, List.length_nil, Nat.reduceAdd, Nat.reduceSub, Array.replicate_succ, Array.replicate_zero, List.push_toArray, List.append_toArray, List.nil_append, List.cons_append]
  go_wp2_with fail
  refine HL.out.mono ?_
  rintro en w2 ⟨rfl, hb2⟩
  have hx2 := (hb2.block _ (Array.getElem?_eq_some_iff.1 HX.out).1).trans HX.out
  have hr2 := (hb2.block _ (Array.getElem?_eq_some_iff.1 HR.out).1).trans HR.out
  have hc0 : w2.cell? ⟨w.heap.size, 0, none⟩ = some (.slice a m.length c) := cell_box hx2 rfl
  have hc1 : w2.cell? ⟨w.heap.size, 1, none⟩ = some (.slice b k.length d) := cell_box hx2 rfl
  have hc2 : w2.cell? ⟨w.heap.size + 1, 0, none⟩ = some (.bool false) := cell_box hr2 rfl
  have hfz : w2.frozen? ⟨w.heap.size + 1, 0, none⟩ = false := by simp [World.frozen?, hr2]
  have HB2 := hid (HB.out.trans (hb2.mono HB.out.size))
  have HRC := hid (rchk_any a b c d m k w2 (HM.out.below HB2.out) (HK.out.below HB2.out))
  rw [HC.out] at HRC
  clear hb2 hx2 hr2 hW1
  go_wp2_with fail
  refine HRC.out.mono ?_
  rintro en w3 ⟨rfl, rfl⟩
  by_cases h0 : ck = 0
  · subst h0
    have hk0 : k.length = 0 := h.resolve_left fun h => h rfl
    have hkz : ((k.length : Nat) : Int) = 0 := by omega
    clear h
    go_wp2_with fail
    refine ⟨_, results_c1 rfl rfl (load_bool (v := true) (World.cell?_setCell_same _ _ _ hc2)), rfl, HB2.out.setCell (p := ⟨w.heap.size + 1, 0, none⟩) (by show w.heap.size ≤ w.heap.size + 1; omega) _⟩
  · have hne : (ck != 0) = true := by simpa using h0
    clear h
    go_wp2_with fail
    refine ⟨_, results_c1 rfl rfl (load_bool (v := true) (World.cell?_setCell_same _ _ _ hc2)), rfl, HB2.out.setCell (p := ⟨w.heap.size + 1, 0, none⟩) (by show w.heap.size ≤ w.heap.size + 1; omega) _⟩
/-- A walk over the ways that keeps nothing. -/
structure PlK (Ws : World) (lim lp : Nat) (r : Loop) (M : Nat → Prop) (W : World) : Prop where
  ak : AK Ws lim (fun b => b = lp) M W
  lp : W.heap[lp]? = some (.loop r)
/-- The walk over the other's ways: has there been this one? -/
structure InK (Ws : World) (lim I : Nat) (r : Loop) (LW : List (List (List Nat))) (tw : List (List Nat)) (j : Nat) (M : Nat → Prop) (W : World) : Prop where
  ak : AK Ws lim (fun b => b = I ∨ b = I + 1) M W
  th : W.heap[I]? = some (.cells #[.bool (decide (tw ∈ LW.take j))] 4 (0, 0))
  lp : W.heap[I + 1]? = some (.loop r)
theorem memtk_succ {L : List (List (List Nat))} {x y : List (List Nat)} {j : Nat} (h : L[j]? = some y) : decide (x ∈ L.take (j + 1)) = (decide (x ∈ L.take j) || decide (y = x)) := by
  obtain ⟨hj, rfl⟩ := List.getElem?_eq_some_iff.1 h
  rw [List.take_succ_eq_append_getElem hj, Bool.eq_iff_iff]
  simp only [List.mem_append, List.mem_singleton, decide_eq_true_eq, Bool.or_eq_true]
  constructor
  · rintro (h | rfl)
    · exact .inl h
    · exact .inr rfl
  · rintro (h | rfl)
    · exact .inl h
    · exact .inr rfl
theorem up_inj {a b : List Nat} (h : up a = up b) : a = b := by
  unfold up at h
  exact (List.map_inj_right fun x y hxy => by omega).1 h
theorem rows_dec (a b : List (List Nat)) : decide (a.map up = b.map up) = decide (a = b) := by
  rw [Bool.eq_iff_iff, decide_eq_true_eq, decide_eq_true_eq]
  exact ⟨fun h => (List.map_inj_right fun x y hxy => up_inj hxy).1 h, fun h => by rw [h]⟩
set_option maxRecDepth 100000 in
set_option maxHeartbeats 8000000 in
theorem who_fine (a b : Option Addr) (c d : Nat) (m k : List Nat) (e : Bool) (turn : Nat) (w : World) (hM : IntsAt w a (up m)) (hK : IntsAt w b (up k)) (hTab : Tab w) (hF : Fine m k) (h0 : 0 < k.length) (ha : a = none → c = 0) (hb0 : b = none → d = 0) (hturn : turn < 256) (hcap : k.length ≤ d) :
    Calls Tryd.prog 7 #[.agg #[.slice a m.length c, .slice b k.length d, .bool e], .int .u8 (turn : Int)] w fun en w' => en = .returned (.bool true) ∧ Below w.heap.size w w' := by
  obtain ⟨W1, hW1, hb, hx, hr, hs1⟩ := deal_boxes w #[.slice a m.length c, .slice b k.length d, .bool e]
  have HL := hid (lives_any W1 (hTab.below hb))
  have HB := hid hb; have HX := hid hx; have HR := hid hr; have HM := hid hM; have HK := hid hK; have HTAB := hid hTab; have HF := hid hF; have HA := hid ha; have HS1 := hid hs1
  obtain ⟨n, hn⟩ : ∃ n, turn % k.length = n := ⟨_, rfl⟩
  have hnT : n < k.length := by rw [← hn]; exact Nat.mod_lt _ h0
  have hrem : ((turn : Int)).tmod (k.length : Int) = (n : Int) := by rw [Int.tmod_eq_emod_of_nonneg (by omega), ← Int.natCast_emod, hn]
  have hT5 := hF.takers
  clear hb hx hr hM hK hTab hF ha hs1 hn
  refine (callsIn_wide (n := 12)).1 ?_
  refine callsIn_of_wp_marks Tryd.func7 rfl trivial (wpIn_wide.2 ?_) rfl
  simp only [Tryd.ntmps7, List.size_toArray, List.length_cons, List.length_nil, Nat.reduceAdd, Nat.reduceSub, Array.replicate_succ, Array.replicate_zero, List.push_toArray, List.append_toArray, List.nil_append, List.cons_append]
  go_wp2_with fail
  refine HL.out.mono ?_
  rintro en w2 ⟨rfl, hb2⟩
  have hx2 := (hb2.block _ (Array.getElem?_eq_some_iff.1 HX.out).1).trans HX.out
  have hr2 := (hb2.block _ (Array.getElem?_eq_some_iff.1 HR.out).1).trans HR.out
  have hc0 : w2.cell? ⟨w.heap.size, 0, none⟩ = some (.slice a m.length c) := cell_box hx2 rfl
  have hc1 : w2.cell? ⟨w.heap.size, 1, none⟩ = some (.slice b k.length d) := cell_box hx2 rfl
  have HB2 := hid (HB.out.trans (hb2.mono HB.out.size))
  have hrc := rchk_any a b c d (up m) (up k) w2 (HM.out.below HB2.out) (HK.out.below HB2.out)
  rw [fine_chk HF.out, up_len, up_len] at hrc
  have HRC := hid hrc
  have HX2 := hid hx2; have HR2 := hid hr2
  have HS2 : Hid (w.heap.size + 2 ≤ w2.heap.size) := hid (by have := HS1.out; have := hb2.size; omega)
  clear hb2 hx2 hr2 hW1 hrc
  go_wp2_with fail
  refine HRC.out.mono ?_
  rintro en w3 ⟨rfl, rfl⟩
  have hk0 : ((k.length : Int) == 0) = false := beq_false_of_ne (by omega)
  go_upto_region 5 with (fail)
  obtain ⟨V2, hV2⟩ : ∃ V2, w3.alloc (.cells #[.int .i64 (n : Int)] 3) = V2 := ⟨_, rfl⟩
  rw [hV2]
  have hbV : Below w3.heap.size w3 V2 := by rw [← hV2]; exact alloc_below0 _ _
  have hnV : V2.heap[w3.heap.size]? = some (.cells #[.int .i64 (n : Int)] 3 (0, 0)) := by rw [← hV2]; exact World.alloc_heap_new w3 _
  have hsV : V2.heap.size = w3.heap.size + 1 := by rw [← hV2, World.size_alloc]
  have hbwV := HB2.out.trans (hbV.mono HB2.out.size)
  obtain ⟨kb, ko, rfl, -⟩ := up_int (HK.out.below hbwV) h0
  obtain ⟨p5, c5, w5, hr5, hb5, p6, c6, w6, hr6, hC6, hb6⟩ := app_two (pc := d - n) (qc := d) (ints_drop (HK.out.below hbwV) n) (ints_take (HK.out.below hbwV) n) (by rw [up_len, List.length_drop]; omega) (by rw [up_len, List.length_take]; omega) (fun h => by cases h) (fun h => by cases h)
  have g1 : V2.cell? ⟨w.heap.size, 1, none⟩ = some (.slice (some ⟨kb, ko, none⟩) k.length d) := below_cell hbV _ _ hc1
  have g2 : V2.cell? ⟨w3.heap.size, 0, none⟩ = some (.int .i64 (n : Int)) := cell_box hnV rfl
  have g1' := below_cell (alloc_below0 V2 (.cells #[] 3)) _ _ g1
  have g2' := below_cell (alloc_below0 V2 (.cells #[] 3)) _ _ g2
  have g5 := below_cell hb5 _ _ g1
  have g5' := below_cell hb5 _ _ g2
  have g6 := below_cell hb6 _ _ g1
  have g6' := below_cell hb6 _ _ g2
  simp only [up_len, List.length_drop, List.length_take, Nat.min_eq_left (Nat.le_of_lt hnT)] at hr5 hr6
  have mixed : Tryd.prog.follows .mixedOrders = true := by kernel_rfl
  have hdn : ¬ (d = n) := by omega
  have hnd : n ≤ d := by omega
  have hnTz : (n : Int) ≤ (k.length : Int) := by omega
  have hcz : (k.length : Int) ≤ (d : Int) := by omega
  have hsum : k.length - n + n = k.length := by omega
  rw [hsum] at hr6
  have HSV := hid hsV; have HNV := hid hnV; have HBV := hid hbV; have HBWV := hid hbwV; have HC6 := hid hC6; have HB6 := hid hb6
  clear hsV hnV hbV hbwV hC6 hb6 hV2 hsum
  go_cut [7] from 39 to 49 (fun ov wc => ov = .slice p6 k.length c6 ∧ wc = w6)
  case first =>
    refine wp_calm ?_
    refine wp_region_held_drew (S := fun V => V.cell? ⟨w.heap.size, 1, none⟩ = some (.slice (some ⟨kb, ko, none⟩) k.length d) ∧ V.cell? ⟨w3.heap.size, 0, none⟩ = some (.int .i64 (n : Int))) mixed ⟨g1, g2⟩ ?_
    intro hS
    refine wpAnyH_take (i := 1) (v := (.pointer (some ⟨w.heap.size, 1, none⟩))) rfl (by kernel_rfl) (by kernel_rfl) (by kernel_rfl) (fun _ _ _ h => (show False from h).elim) (Or.inl ⟨by rfl, fun w' hw' => ?_⟩) hS ?_
    · go_simp
    simp only [Act.put, List.getElem_toArray, List.getElem_cons_zero, List.getElem_cons_succ, List.setIfInBounds_toArray, List.set_cons_zero, List.set_cons_succ]
    refine wpAnyH_take (i := 2) (v := (.slice (some ⟨kb, ko, none⟩) k.length d)) rfl (by kernel_rfl) (by kernel_rfl) (by kernel_rfl) (fun _ _ _ h => (show False from h).elim) (Or.inl ⟨by rfl, fun w' hw' => ?_⟩) hS ?_
    · have y0 := hw'.1; go_simp
    simp only [Act.put, List.getElem_toArray, List.getElem_cons_zero, List.getElem_cons_succ, List.setIfInBounds_toArray, List.set_cons_zero, List.set_cons_succ]
    refine wpAnyH_take (i := 3) (v := (.int .i64 (n : Int))) rfl (by kernel_rfl) (by kernel_rfl) (by kernel_rfl) (fun _ _ _ h => (show False from h).elim) (Or.inl ⟨by rfl, fun w' hw' => ?_⟩) hS ?_
    · have y0 := hw'.2; go_simp
    simp only [Act.put, List.getElem_toArray, List.getElem_cons_zero, List.getElem_cons_succ, List.setIfInBounds_toArray, List.set_cons_zero, List.set_cons_succ]
    refine wpAnyH_take (i := 4) (v := (.slice (some ⟨kb, ko + n, none⟩) (k.length - n) (d - n))) rfl (by kernel_rfl) (by kernel_rfl) (by kernel_rfl) (fun _ _ _ h => (show False from h).elim) (Or.inl ⟨by rfl, fun w' hw' => ?_⟩) hS ?_
    · go_simp
    simp only [Act.put, List.getElem_toArray, List.getElem_cons_zero, List.getElem_cons_succ, List.setIfInBounds_toArray, List.set_cons_zero, List.set_cons_succ]
    refine wpAnyH_take (i := 6) (v := (.pointer (some ⟨w.heap.size, 1, none⟩))) rfl (by kernel_rfl) (by kernel_rfl) (by kernel_rfl) (fun _ _ _ h => (show False from h).elim) (Or.inl ⟨by rfl, fun w' hw' => ?_⟩) hS ?_
    · go_simp
    simp only [Act.put, List.getElem_toArray, List.getElem_cons_zero, List.getElem_cons_succ, List.setIfInBounds_toArray, List.set_cons_zero, List.set_cons_succ]
    refine wpAnyH_take (i := 7) (v := (.slice (some ⟨kb, ko, none⟩) k.length d)) rfl (by kernel_rfl) (by kernel_rfl) (by kernel_rfl) (fun _ _ _ h => (show False from h).elim) (Or.inl ⟨by rfl, fun w' hw' => ?_⟩) hS ?_
    · have y0 := hw'.1; go_simp
    simp only [Act.put, List.getElem_toArray, List.getElem_cons_zero, List.getElem_cons_succ, List.setIfInBounds_toArray, List.set_cons_zero, List.set_cons_succ]
    refine wpAnyH_take (i := 8) (v := (.int .i64 (n : Int))) rfl (by kernel_rfl) (by kernel_rfl) (by kernel_rfl) (fun _ _ _ h => (show False from h).elim) (Or.inl ⟨by rfl, fun w' hw' => ?_⟩) hS ?_
    · have y0 := hw'.2; go_simp
    simp only [Act.put, List.getElem_toArray, List.getElem_cons_zero, List.getElem_cons_succ, List.setIfInBounds_toArray, List.set_cons_zero, List.set_cons_succ]
    refine wpAnyH_take (i := 9) (v := (.slice (some ⟨kb, ko, none⟩) n d)) rfl (by kernel_rfl) (by kernel_rfl) (by kernel_rfl) (fun _ _ _ h => (show False from h).elim) (Or.inl ⟨by rfl, fun w' hw' => ?_⟩) hS ?_
    · go_simp
    simp only [Act.put, List.getElem_toArray, List.getElem_cons_zero, List.getElem_cons_succ, List.setIfInBounds_toArray, List.set_cons_zero, List.set_cons_succ]
    refine wpAnyH_ready (rs := [0]) (by kernel_rfl) (by simp) ?_
    refine AllReadyH.cons rfl (fun K hK => ?_) AllReadyH.nil
    go_simp
    refine hK.out _ _ ⟨g1', g2'⟩ (fun hS => ?_)
    clear hK K
    refine wpAnyH_ready (rs := [5]) (by kernel_rfl) (by simp) ?_
    refine AllReadyH.cons rfl (fun K hK => ?_) AllReadyH.nil
    refine step_append_run rfl (.tmp 39) (.tmp 43) 23 rfl _ _ (by rfl) (by rfl) _ _ (hr5 _) ?_
    simp only [Act.put, List.getElem_toArray, List.getElem_cons_zero, List.getElem_cons_succ, List.setIfInBounds_toArray, List.set_cons_zero, List.set_cons_succ]
    refine hK.out _ _ ⟨g5, g5'⟩ (fun hS => ?_)
    clear hK K
    refine wpAnyH_ready (rs := [10]) (by kernel_rfl) (by simp) ?_
    refine AllReadyH.cons rfl (fun K hK => ?_) AllReadyH.nil
    refine step_append_run rfl (.tmp 44) (.tmp 48) 23 rfl _ _ (by rfl) (by rfl) _ _ (hr6 _) ?_
    simp only [Act.put, List.getElem_toArray, List.getElem_cons_zero, List.getElem_cons_succ, List.setIfInBounds_toArray, List.set_cons_zero, List.set_cons_succ]
    refine hK.out _ _ ⟨g6, g6'⟩ (fun hS => ?_)
    clear hK K
    refine wpAnyH_ready (rs := [11]) (by kernel_rfl) (by simp) ?_
    refine AllReadyH.cons rfl (fun K hK => ?_) AllReadyH.nil
    go_simp
    refine hK.out _ _ ⟨g6, g6'⟩ (fun hS => ?_)
    clear hK K
    refine wpAnyH_done (by kernel_rfl) ?_ _
    go_wp2_with fail
    go_meet
    all_goals exact ⟨rfl, rfl⟩
  case rest =>
    obtain ⟨hcut1, hcut2⟩ := hcut
    subst hcut1
    rw [hcut2]
    clear hcut2 hr5 hr6 g1' g2' g5 g5' hb5
    obtain ⟨k', hk'⟩ : ∃ k', k.drop n ++ k.take n = k' := ⟨_, rfl⟩
    have hkl : k'.length = k.length := by rw [← hk', List.length_append, List.length_drop, List.length_take]; omega
    have hF' : Fine m k' := ⟨HF.out.few, by rw [hkl]; exact hT5, HF.out.small, fun x hx => HF.out.often x (by
      rw [← hk'] at hx
      rcases List.mem_append.1 hx with h | h
      · exact List.mem_of_mem_drop h
      · exact List.mem_of_mem_take h)⟩
    have hI6 : IntsAt w6 p6 (up k') := by
      have h := HC6.out.ints
      rw [show up (k.drop n) ++ up (k.take n) = up k' by rw [← hk']; unfold up; rw [List.map_append]] at h
      exact h
    have hp6 : p6 = none → c6 = 0 := fun h => by
      have h9 := HC6.out
      rw [h] at h9
      exact h9.nil0
    have hlen' : (waysF m k' e).length = (waysF m k e).length := by rw [← hk']; exact turn_len (fun x hx => (HF.out.often x hx).1) n (Nat.le_of_lt hnT)
    have HBW6 := hid (HBWV.out.trans (HB6.out.mono HBWV.out.size))
    obtain ⟨z, hz⟩ : ∃ z, (waysF m k e).length = z := ⟨_, rfl⟩
    have hg2 : w6.cell? ⟨w.heap.size, 2, none⟩ = some (.bool e) := by
      have h9 : w3.cell? ⟨w.heap.size, 2, none⟩ = some (.bool e) := cell_box HX2.out rfl
      exact below_cell HB6.out _ _ (below_cell HBV.out _ _ h9)
    have hg0 : w6.cell? ⟨w.heap.size, 0, none⟩ = some (.slice a m.length c) := below_cell HB6.out _ _ (below_cell HBV.out _ _ hc0)
    have hct := count_any a (some ⟨kb, ko, none⟩) c d m k e 3000 w6 (HM.out.below HBW6.out) (HK.out.below HBW6.out) HF.out (by decide) (HTAB.out.below HBW6.out)
    rw [hz] at hct hlen'
    have HCT := hid hct; have HF' := hid hF'; have HI6 := hid hI6; have HKL := hid hkl; have HKK := hid hk'; have HP6 := hid hp6; have HZ := hid hz; have HZ' := hid hlen'
    clear hct hF' hI6 hkl hk' hp6 hlen' hz hrem hk0
    go_wp2_with fail
    refine HCT.out.mono ?_
    rintro en w7 ⟨rfl, hb7⟩
    have HB7 := hid (HBW6.out.trans (hb7.mono HBW6.out.size))
    have HI7 := hid (HI6.out.below hb7)
    have hct := count_any a p6 c c6 m k' e 3000 w7 (HM.out.below HB7.out) HI7.out HF'.out (by decide) (HTAB.out.below HB7.out)
    rw [HZ'.out, HKL.out] at hct
    have k0 := below_cell hb7 _ _ hg0
    have k2 := below_cell hb7 _ _ hg2
    have k1 := below_cell hb7 _ _ g6
    have kn := below_cell hb7 _ _ g6'
    have HCT2 := hid hct; have HB67 := hid hb7
    clear hct hb7 hg0 hg2 g6 g6' HCT
    go_wp2_with fail
    refine HCT2.out.mono ?_
    rintro en w8 ⟨rfl, hb8⟩
    have HB8 := hid (HB7.out.trans (hb8.mono HB7.out.size))
    have HI8 := hid (HI7.out.below hb8)
    have j0 := below_cell hb8 _ _ k0
    have j2 := below_cell hb8 _ _ k2
    have j1 := below_cell hb8 _ _ k1
    have jn := below_cell hb8 _ _ kn
    have HB78 := hid hb8
    have HB3 : Hid (Below w3.heap.size w3 w8) := hid (HBV.out.trans ((HB6.out.mono HBV.out.size).trans ((HB67.out.mono (Nat.le_trans HBV.out.size HB6.out.size)).trans (HB78.out.mono (Nat.le_trans HBV.out.size (Nat.le_trans HB6.out.size HB67.out.size))))))
    have hr8 : w8.heap[w.heap.size + 1]? = some (.cells #[.bool false] 4 (0, 0)) := (HB3.out.block _ (Array.getElem?_eq_some_iff.1 HR2.out).1).trans HR2.out
    have hc8 : w8.cell? ⟨w.heap.size + 1, 0, none⟩ = some (.bool false) := cell_box hr8 rfl
    have hf8 : w8.frozen? ⟨w.heap.size + 1, 0, none⟩ = false := by simp [World.frozen?, hr8]
    have HR8 := hid hr8
    clear hb8 k0 k1 k2 kn HCT2 hr8
    obtain ⟨y, hy⟩ : ∃ y, min z 3000 = y := ⟨_, rfl⟩
    have hne : ((y : Int) != (y : Int)) = false := by simp
    rw [hy]
    have HY := hid hy
    clear hy
    by_cases hbig : 200 < y
    · have hbz : (200 : Int) < (y : Int) := by omega
      go_wp2_with fail
      refine ⟨_, results_c1 rfl rfl (load_bool (v := true) (World.cell?_setCell_same _ _ _ hc8)), rfl, HB8.out.setCell (p := ⟨w.heap.size + 1, 0, none⟩) (by show w.heap.size ≤ w.heap.size + 1; omega) _⟩
    · have hbz : ¬ (200 : Int) < (y : Int) := by omega
      clear hc8 hf8
      have HAL := hid (all_any a (some ⟨kb, ko, none⟩) c d m k e w8 (HM.out.below HB8.out) (HK.out.below HB8.out) HF.out HA.out)
      go_wp2_with fail
      refine HAL.out.mono ?_
      rintro en w9 ⟨X, Fb, p9, c9, f9, rfl, hX9, hF9, hD9, hSv9, hcr9, hf9, hb9⟩
      have HB9 := hid (HB8.out.trans (hb9.mono HB8.out.size))
      have hal := all_any a p6 c c6 m k' e w9 (HM.out.below HB9.out) (HI8.out.below hb9) HF'.out HA.out
      rw [HKL.out] at hal
      have i0 := below_cell hb9 _ _ j0
      have i2 := below_cell hb9 _ _ j2
      have inn := below_cell hb9 _ _ jn
      have i1 := below_cell hb9 _ _ j1
      have HAL2 := hid hal
      have HX9 := hid hX9; have HF9 := hid hF9; have HD9 := hid hD9; have HSV9 := hid hSv9; have HCR9 := hid hcr9; have HFB9 := hid hf9; have HB89 := hid hb9
      clear hX9 hF9 hD9 hSv9 hcr9 hf9 hb9 hal j0 j1 j2 jn HAL
      go_wp2_with fail
      refine HAL2.out.mono ?_
      rintro en w10 ⟨X', Fb', p10, c10, f10, rfl, hX10, hF10, hD10, hSv10, hcr10, hf10, hb10⟩
      have HX10 := hid hX10; have HF10 := hid hF10; have HD10 := hid hD10; have HSV10 := hid hSv10; have HCR10 := hid hcr10; have HFB10 := hid hf10; have HB910 := hid hb10
      have HB10 := hid (HB9.out.trans (hb10.mono HB9.out.size))
      have q0 := below_cell hb10 _ _ i0
      have qn := below_cell hb10 _ _ inn
      have q1 := below_cell hb10 _ _ i1
      have qx : w10.heap[w.heap.size]? = some (.cells #[.slice a m.length c, .slice (some ⟨kb, ko, none⟩) k.length d, .bool e] 29 (0, 0)) := (hb10.block _ (Nat.lt_of_lt_of_le (by have := HS2.out; have := HB3.out.size; omega) HB89.out.size)).trans ((HB89.out.block _ (by have := HS2.out; have := HB3.out.size; omega)).trans ((HB3.out.block _ (by have := HS2.out; omega)).trans HX2.out))
      have qr : w10.heap[w.heap.size + 1]? = some (.cells #[.bool false] 4 (0, 0)) := (hb10.block _ (Nat.lt_of_lt_of_le (by have := HS2.out; have := HB3.out.size; omega) HB89.out.size)).trans ((HB89.out.block _ (by have := HS2.out; have := HB3.out.size; omega)).trans HR8.out)
      have HQX := hid qx; have HQR := hid qr
      have HQN : Hid (w10.cell? ⟨w3.heap.size, 0, none⟩ = some (.int .i64 (n : Int))) := hid qn
      have HI10 := hid ((HI8.out.below HB89.out).below hb10)
      have HD9' := hid (HD9.out.below hb10)
      have HCR9' := hid (HCR9.out.below hb10)
      have HFB9' : Hid (w10.heap[Fb]? = some (.cells (dC ⟨[], m, needN e k⟩).toArray 62 (0, 0))) := hid ((hb10.block _ (Array.getElem?_eq_some_iff.1 HFB9.out).1).trans HFB9.out)
      have hs10 : w.heap.size + 2 ≤ w10.heap.size := Nat.le_trans (Nat.le_trans (by have := HS2.out; have := HB3.out.size; omega) HB89.out.size) hb10.size
      have HS10 := hid hs10
      obtain ⟨W11, hW11⟩ : ∃ W11, w10.alloc (.cells #[.func (.func 28) #[] #[.pointer (some ⟨X', 0, none⟩), .pointer (some ⟨Fb', 0, none⟩)]] 33) = W11 := ⟨_, rfl⟩
      have hb11 : Below w10.heap.size w10 W11 := by rw [← hW11]; exact alloc_below0 _ _
      have hO11 : W11.heap[w10.heap.size]? = some (.cells #[.func (.func 28) #[] #[.pointer (some ⟨X', 0, none⟩), .pointer (some ⟨Fb', 0, none⟩)]] 33 (0, 0)) := by rw [← hW11]; exact World.alloc_heap_new w10 _
      have hs11 : W11.heap.size = w10.heap.size + 1 := by rw [← hW11, World.size_alloc]
      have hco : W11.cell? ⟨w10.heap.size, 0, none⟩ = some (.func (.func 28) #[] #[.pointer (some ⟨X', 0, none⟩), .pointer (some ⟨Fb', 0, none⟩)]) := cell_box hO11 rfl
      have HB11 := hid hb11; have HO11 := hid hO11; have HS11 := hid hs11
      clear hX10 hF10 hD10 hSv10 hcr10 hf10 hb10 i0 i1 i2 inn HAL2 q0 qn q1 qx qr hs10 hb11 hO11 hs11
      have hnil := nil28 #[.pointer (some ⟨X, 0, none⟩), .pointer (some ⟨Fb, 0, none⟩)] W11
      have hnil' := nil28 #[.pointer (some ⟨X', 0, none⟩), .pointer (some ⟨Fb', 0, none⟩)] W11
      go_upto_block 0 with (fail)
      clear hW11
      refine (wpIn_wide (n := 12)).1 ?_
      gi_wp2_with fail
      refine range_law rfl (by omega) (gf := 28) (lb := #[.pointer (some ⟨X, 0, none⟩), .pointer (some ⟨Fb, 0, none⟩)]) rfl trivial (enters_of Tryd.func28 (by kernel_rfl) rfl) ?_
      intro r hr1 hr2 hr3 hr4 hr5 hr6 hr7
      rw [HS11.out]
      obtain ⟨O, hO⟩ : ∃ O, w10.heap.size = O := ⟨_, rfl⟩
      have HOO := hid hO
      rw [hO] at HB11 HO11 HS11 HS10 hr3 ⊢
      clear hO hnil hnil' hco
      obtain ⟨Ws, hWs⟩ : ∃ Ws, (W11.alloc (.deferred (some []))).alloc (.loop r) = Ws := ⟨_, rfl⟩
      have b1 := alloc_below0 W11 (.deferred (some []))
      have b2 := alloc_below0 (W11.alloc (.deferred (some []))) (.loop r)
      have s1 : (W11.alloc (.deferred (some []))).heap.size = O + 2 := by rw [World.size_alloc, HS11.out]
      have hbs : Below W11.heap.size W11 Ws := by rw [← hWs]; exact b1.trans (b2.mono (by rw [World.size_alloc]; omega))
      have hss : Ws.heap.size = O + 3 := by rw [← hWs, World.size_alloc, s1]
      have hdf : Ws.heap[O + 1]? = some (.deferred (some [])) := by
        rw [← hWs]
        have h9 := World.alloc_heap_new W11 (.deferred (some []))
        rw [HS11.out] at h9
        exact (b2.block _ (by omega)).trans h9
      have hlp : Ws.heap[O + 1 + 1]? = some (.loop r) := by
        have h1 := World.alloc_heap_new (W11.alloc (.deferred (some []))) (.loop r)
        rw [s1] at h1
        rw [← hWs]
        exact h1
      rw [hWs]
      have HDF := hid hdf; have HLP := hid hlp; have HSS := hid hss; have HBS := hid hbs
      have HXL : Hid (X < O) := hid (by rw [← HOO.out]; exact HD9'.out.lt)
      have HPK : Hid (∀ g o, p9 = some ⟨g, o, none⟩ → g < O) := hid fun g o e => by
        rcases HCR9'.out.2 with ⟨h1, _⟩ | ⟨g', cap, cur, h1, h2, h3, _⟩
        · rw [e] at h1; cases h1
        · rw [e] at h1
          cases h1
          rw [← HOO.out]; exact (Array.getElem?_eq_some_iff.1 h3).1
      clear b1 b2 s1 hbs hss hdf hlp hWs
      have HSM : Hid (∀ M W, PlK Ws (O + 3) (O + 1 + 1) r M W → ∀ b, b < O + 1 → W.heap[b]? = W11.heap[b]?) := hid fun M W h b hb => (h.ak.blk (by rw [HSS.out]; omega) (by omega) (by omega)).trans (HBS.out.block _ (by rw [HS11.out]; exact hb))
      have HTW : Hid (Tab W11) := hid ((HTAB.out.below HB10.out).below (HOO.out ▸ HB11.out))
      refine (all_in 7 (O + 1 + 1) X Fb m.length k.length c9 p9 k f9 ⟨[], m, needN e k⟩ (fun _ M W => PlK Ws (O + 3) (O + 1 + 1) r M W) (fun _ => False) Ws rfl HF.out.often HF.out.few HF.out.takers HSV9.out (dl_ok e HF.out) rfl ?_ ?_ ?_ ?_ ?_).mono ?_
      · exact (HBS.out.block _ (by rw [HS11.out]; have := (Array.getElem?_eq_some_iff.1 HFB9'.out).1; have := HOO.out; omega)).trans ((HB11.out.block _ (by have := (Array.getElem?_eq_some_iff.1 HFB9'.out).1; have := HOO.out; omega)).trans HFB9'.out)
      · rintro i M M' W W' hj hf hm
        have hz := hj.ak.sz
        exact ⟨hj.ak.go hf hm, (hf.same _ (by omega) fun h => by have := hj.ak.mm _ h; omega).trans hj.lp⟩
      · rintro i M W hj
        have hx := HXL.out
        have hs : ∀ b, b < O → W.heap[b]? = w10.heap[b]? := fun b hb => (HSM.out M W hj b (by omega)).trans (HB11.out.block _ hb)
        refine ⟨HD9'.out.same (hs X hx), (HCR9'.out.same fun b hb hb' => hs b (by rw [← HOO.out]; exact hb')).ints, fun q hq => (cell_same (HSM.out M W hj 0 (by omega))).trans (HTW.out q hq), fun h => ?_, fun h => ?_, fun a o e h => ?_⟩
        · have := hj.ak.mm _ h; omega
        · have := hj.ak.mm _ h; omega
        · have := hj.ak.mm _ h; have := HPK.out a o e; omega
      · rintro mm i M W v g bs hv hj hM hbs1 hbs2 hway
        rw [wd_all m k e] at hv
        have hvm : v ∈ waysF m k e := by
          obtain ⟨h1, h2⟩ := List.getElem?_eq_some_iff.1 hv
          rw [← h2]; exact List.getElem_mem _
        have HVM := hid hvm; have HMM := hid hM; have HB1 := hid hbs1; have HB2' := hid hbs2; have HWY := hid hway; have HJ := hid hj
        refine yield_by hr5 hr6 hr3 hr4 hj.lp hr1 rfl hr7 ?_
        clear hv hvm hM hbs1 hbs2 hway hj hr3 hr4 hr5 hr6
        simp only [List.zip_toArray, List.zip_cons_cons, List.zip_nil_right, List.foldl_toArray, List.foldl_cons, List.foldl_nil, List.setIfInBounds_toArray, List.set_cons_succ, List.set_cons_zero]
        gi_wp2_with fail
        refine ⟨HJ.out.lp, ?_⟩
        have hltl : O + 1 + 1 < W.heap.size := (Array.getElem?_eq_some_iff.1 HJ.out.lp).1
        have hbL : O + 3 ≤ bs := by have := HSS.out; have := HB2'.out; omega
        obtain ⟨W2, hW2⟩ : ∃ W2, W.putObj (O + 1 + 1) (.loop { r with state := .busy }) = W2 := ⟨_, rfl⟩
        have hF2 : Fr (fun b => b = O + 1 + 1) W W2 := by rw [← hW2]; exact fr_one _ _
        have hL2 : W2.heap[O + 1 + 1]? = some (.loop { r with state := .busy }) := by rw [← hW2]; exact World.putObj_heap_same hltl
        have hWy2 : WayAt W2 bs g m.length k.length (rowsN m.length k.length v) := HWY.out.same fun b hb hb' => hF2.same b hb' (by omega)
        have hsm : ∀ b, b < O + 1 → W2.heap[b]? = W11.heap[b]? := fun b hb => (hF2.same b (by omega) (by omega)).trans (HSM.out M W HJ.out b hb)
        have hcn : W2.cell? ⟨w3.heap.size, 0, none⟩ = some (.int .i64 (n : Int)) := by
          have h9 := HQN.out
          have h8 : w3.heap.size < O := by rw [← HOO.out]; exact World.block_lt_of_cell? w10 _ h9
          exact (cell_same ((hsm w3.heap.size (by omega)).trans (HB11.out.block _ h8))).trans h9
        have hxk : W2.cell? ⟨w.heap.size, 1, none⟩ = some (.slice (some ⟨kb, ko, none⟩) k.length d) := by
          have h8 : w.heap.size < O := by have := HS10.out; omega
          exact (cell_same ((hsm w.heap.size (by omega)).trans (HB11.out.block _ h8))).trans (cell_box HQX.out rfl)
        have hoc : W2.heap[O]? = some (.cells #[.func (.func 28) #[] #[.pointer (some ⟨X', 0, none⟩), .pointer (some ⟨Fb', 0, none⟩)]] 33 (0, 0)) := (hsm _ (by omega)).trans HO11.out
        obtain ⟨cl, hcl0, hcl1, hcl2⟩ := way_cells hWy2 (rowsN_len _ _ _)
        rw [hW2]
        have HF2 := hid hF2; have HL2 := hid hL2; have HWY2 := hid hWy2; have HBL := hid hbL; have HSM2 := hid hsm; have HCN := hid hcn; have HXK := hid hxk; have HOC := hid hoc; have HCLL := hid hcl0; have HCL := hid hcl1; have HCL1 := hid hcl2
        clear hltl hF2 hL2 hWy2 hW2 hbL hsm hcn hoc hcl0 hcl1 hcl2
        gi_upto_region 20 with (fail)
        clear hxk
        have bA := hid (show Below W2.heap.size W2 (W2.alloc (.cells #[] 23)).drew from (alloc_below0 W2 _).drew)
        have bB := hid (show Below W2.heap.size W2 ((W2.alloc (.cells #[] 23)).alloc (.cells #[.slice none 0 0] 36)).drew from ((alloc_below0 W2 _).alloc (by simp) _).drew)
        have bC0 := hid (show Below W2.heap.size W2 (W2.alloc (.cells #[.slice none 0 0] 36)).drew from (alloc_below0 W2 _).drew)
        have bC := hid (show Below W2.heap.size W2 ((W2.alloc (.cells #[.slice none 0 0] 36)).alloc (.cells #[] 23)).drew from ((alloc_below0 W2 _).alloc (by simp) _).drew)
        have eA := hid (show (W2.alloc (.cells #[] 23)).drew.heap[W2.heap.size]? = some (.cells #[] 23 (0, 0)) from World.alloc_heap_new W2 _)
        have eB := hid (show ((W2.alloc (.cells #[] 23)).alloc (.cells #[.slice none 0 0] 36)).drew.heap[W2.heap.size]? = some (.cells #[] 23 (0, 0)) from ((alloc_below0 (W2.alloc (.cells #[] 23)) _).block _ (by simp)).trans (World.alloc_heap_new W2 _))
        have boxB := hid (show ((W2.alloc (.cells #[] 23)).alloc (.cells #[.slice none 0 0] 36)).drew.heap[W2.heap.size + 1]? = some (.cells #[.slice none 0 0] 36 (0, 0)) by
          have h := World.alloc_heap_new (W2.alloc (.cells #[] 23)) (.cells #[.slice none 0 0] 36)
          rw [World.size_alloc] at h
          exact h)
        have eC := hid (show ((W2.alloc (.cells #[.slice none 0 0] 36)).alloc (.cells #[] 23)).drew.heap[W2.heap.size + 1]? = some (.cells #[] 23 (0, 0)) by
          have h := World.alloc_heap_new (W2.alloc (.cells #[.slice none 0 0] 36)) (.cells #[] 23)
          rw [World.size_alloc] at h
          exact h)
        have boxC := hid (show ((W2.alloc (.cells #[.slice none 0 0] 36)).alloc (.cells #[] 23)).drew.heap[W2.heap.size]? = some (.cells #[.slice none 0 0] 36 (0, 0)) from ((alloc_below0 (W2.alloc (.cells #[.slice none 0 0] 36)) _).block _ (by simp)).trans (World.alloc_heap_new W2 _))
        have A1 := fun V hb q hq h => turn_app1 (W2 := W2) (V := V) (g := g) (Nat.le_of_lt hnT) hT5 HCLL.out HCL.out HCL1.out hb (q := q) hq h
        have A2 := fun V hb p c h => turn_app2 (W2 := W2) (V := V) (g := g) (Nat.le_of_lt hnT) hT5 HCLL.out HCL.out HCL1.out hb (p := p) (c := c) h
        obtain ⟨pA1, cA1, wA1, hrA, hoA1, hbA1, hkA1⟩ := A1 _ bA.out _ (Nat.le_refl _) eA.out
        obtain ⟨pA2, cA2, wA2, hrA2, hoA2, hbA2, hkA2⟩ := A2 _ hbA1 _ _ hoA1
        obtain ⟨pA3, cA3, wA3, hrA3, hoA3, hbA3, hkA3⟩ := A2 (wA1.alloc (.cells #[.slice none 0 0] 36)) (hbA1.trans ((alloc_below0 wA1 _).mono hbA1.size)) _ _ (own_below hoA1 (alloc_below0 wA1 _))
        obtain ⟨pB1, cB1, wB1, hrB, hoB1, hbB1, hkB1⟩ := A1 _ bB.out _ (Nat.le_refl _) eB.out
        obtain ⟨pB2, cB2, wB2, hrB2, hoB2, hbB2, hkB2⟩ := A2 _ hbB1 _ _ hoB1
        obtain ⟨pC1, cC1, wC1, hrC, hoC1, hbC1, hkC1⟩ := A1 _ bC.out _ (Nat.le_succ _) eC.out
        obtain ⟨pC2, cC2, wC2, hrC2, hoC2, hbC2, hkC2⟩ := A2 _ hbC1 _ _ hoC1
        have boxA3 : wA3.heap[wA1.heap.size]? = some (.cells #[.slice none 0 0] 36 (0, 0)) := hkA3 _ _ (World.alloc_heap_new wA1 _)
        have xA3 : wA3.cell? ⟨wA1.heap.size, 0, none⟩ = some (.slice none 0 0) := cell_box boxA3 rfl
        have fA3 : wA3.frozen? ⟨wA1.heap.size, 0, none⟩ = false := by simp [World.frozen?, boxA3]
        have boxB2 : wB2.heap[W2.heap.size + 1]? = some (.cells #[.slice none 0 0] 36 (0, 0)) := hkB2 _ _ (hkB1 _ _ boxB.out)
        have xB2 : wB2.cell? ⟨W2.heap.size + 1, 0, none⟩ = some (.slice none 0 0) := cell_box boxB2 rfl
        have fB2 : wB2.frozen? ⟨W2.heap.size + 1, 0, none⟩ = false := by simp [World.frozen?, boxB2]
        have boxC2 : wC2.heap[W2.heap.size]? = some (.cells #[.slice none 0 0] 36 (0, 0)) := hkC2 _ _ (hkC1 _ _ boxC.out)
        have xC2 : wC2.cell? ⟨W2.heap.size, 0, none⟩ = some (.slice none 0 0) := cell_box boxC2 rfl
        have fC2 : wC2.frozen? ⟨W2.heap.size, 0, none⟩ = false := by simp [World.frozen?, boxC2]
        clear boxA3 boxB2 boxC2
        have hnT' : ¬ (k.length = n) := by omega
        gi_cut [15] from 113 (fun bv wc => ∃ (B : Nat) (p : Option Addr) (c : Nat), bv = .pointer (some ⟨B, 0, none⟩) ∧ W2.heap.size ≤ B ∧ wc.heap[B]? = some (.cells #[.slice p k.length c] 36 (0, 0)) ∧ wc.ownsRow W2.heap.size 23 1 (.slice p k.length c) k.length (cl.drop n ++ cl.take n) ∧ Below W2.heap.size W2 wc)
        case first =>
          refine wpIn_calm ?_
          refine wpIn_region_held (fun V => V.cell? ⟨w3.heap.size, 0, none⟩ = some (.int .i64 (n : Int))) mixed (by kernel_rfl) (by rintro ⟨_, _, h, _⟩) HCN.out ?_
          intro hS
          refine wpAnyH_take (i := 1) (v := (.slice (some ⟨g, 0, none⟩) k.length k.length)) rfl (by kernel_rfl) (by kernel_rfl) (by kernel_rfl) (fun _ _ _ h => (show False from h).elim) (Or.inl ⟨by rfl, fun w' hw' => ?_⟩) hS ?_
          · go_simp
          simp only [Act.put, List.getElem_toArray, List.getElem_cons_zero, List.getElem_cons_succ, List.setIfInBounds_toArray, List.set_cons_zero, List.set_cons_succ]
          refine wpAnyH_take (i := 2) (v := (.int .i64 (n : Int))) rfl (by kernel_rfl) (by kernel_rfl) (by kernel_rfl) (fun _ _ _ h => (show False from h).elim) (Or.inl ⟨by rfl, fun w' hw' => ?_⟩) hS ?_
          · have y0 := hw'; go_simp
          simp only [Act.put, List.getElem_toArray, List.getElem_cons_zero, List.getElem_cons_succ, List.setIfInBounds_toArray, List.set_cons_zero, List.set_cons_succ]
          refine wpAnyH_take (i := 3) (v := (.slice (some ⟨g, n, none⟩) (k.length - n) (k.length - n))) rfl (by kernel_rfl) (by kernel_rfl) (by kernel_rfl) (fun _ _ _ h => (show False from h).elim) (Or.inl ⟨by rfl, fun w' hw' => ?_⟩) hS ?_
          · go_simp
          simp only [Act.put, List.getElem_toArray, List.getElem_cons_zero, List.getElem_cons_succ, List.setIfInBounds_toArray, List.set_cons_zero, List.set_cons_succ]
          refine wpAnyH_take (i := 5) (v := (.slice (some ⟨g, 0, none⟩) k.length k.length)) rfl (by kernel_rfl) (by kernel_rfl) (by kernel_rfl) (fun _ _ _ h => (show False from h).elim) (Or.inl ⟨by rfl, fun w' hw' => ?_⟩) hS ?_
          · go_simp
          simp only [Act.put, List.getElem_toArray, List.getElem_cons_zero, List.getElem_cons_succ, List.setIfInBounds_toArray, List.set_cons_zero, List.set_cons_succ]
          refine wpAnyH_take (i := 6) (v := (.int .i64 (n : Int))) rfl (by kernel_rfl) (by kernel_rfl) (by kernel_rfl) (fun _ _ _ h => (show False from h).elim) (Or.inl ⟨by rfl, fun w' hw' => ?_⟩) hS ?_
          · have y0 := hw'; go_simp
          simp only [Act.put, List.getElem_toArray, List.getElem_cons_zero, List.getElem_cons_succ, List.setIfInBounds_toArray, List.set_cons_zero, List.set_cons_succ]
          refine wpAnyH_take (i := 7) (v := (.slice (some ⟨g, 0, none⟩) n k.length)) rfl (by kernel_rfl) (by kernel_rfl) (by kernel_rfl) (fun _ _ _ h => (show False from h).elim) (Or.inl ⟨by rfl, fun w' hw' => ?_⟩) hS ?_
          · go_simp
          simp only [Act.put, List.getElem_toArray, List.getElem_cons_zero, List.getElem_cons_succ, List.setIfInBounds_toArray, List.set_cons_zero, List.set_cons_succ]
          refine wpAnyH_ready (rs := [0, 9]) (by kernel_rfl) (by simp) ?_
          refine AllReadyH.cons rfl (fun K hK => ?_) (AllReadyH.cons rfl (fun K hK => ?_) AllReadyH.nil)
          · go_simp
            refine hK.out _ _ (below_cell (bA.out) _ _ HCN.out) (fun hS => ?_)
            clear hK K
            refine wpAnyH_ready (rs := [4, 9]) (by kernel_rfl) (by simp) ?_
            refine AllReadyH.cons rfl (fun K hK => ?_) (AllReadyH.cons rfl (fun K hK => ?_) AllReadyH.nil)
            · refine step_append_run rfl (.tmp 113) (.tmp 116) 36 rfl _ _ (by rfl) (by rfl) _ _ (hrA _) ?_
              simp only [Act.put, List.getElem_toArray, List.getElem_cons_zero, List.getElem_cons_succ, List.setIfInBounds_toArray, List.set_cons_zero, List.set_cons_succ]
              refine hK.out _ _ (below_cell (hbA1) _ _ HCN.out) (fun hS => ?_)
              clear hK K
              refine wpAnyH_ready (rs := [8, 9]) (by kernel_rfl) (by simp) ?_
              refine AllReadyH.cons rfl (fun K hK => ?_) (AllReadyH.cons rfl (fun K hK => ?_) AllReadyH.nil)
              · refine step_append_run rfl (.tmp 117) (.tmp 120) 36 rfl _ _ (by rfl) (by rfl) _ _ (hrA2 _) ?_
                simp only [Act.put, List.getElem_toArray, List.getElem_cons_zero, List.getElem_cons_succ, List.setIfInBounds_toArray, List.set_cons_zero, List.set_cons_succ]
                refine hK.out _ _ (below_cell (hbA2) _ _ HCN.out) (fun hS => ?_)
                clear hK K
                refine wpAnyH_ready (rs := [9]) (by kernel_rfl) (by simp) ?_
                refine AllReadyH.cons rfl (fun K hK => ?_) AllReadyH.nil
                go_simp
                refine hK.out _ _ (below_cell (hbA2.trans ((alloc_below0 wA2 _).mono hbA2.size)) _ _ HCN.out) (fun hS => ?_)
                clear hK K
                refine wpAnyH_ready (rs := [10]) (by kernel_rfl) (by simp) ?_
                refine AllReadyH.cons rfl (fun K hK => ?_) AllReadyH.nil
                go_simp
                refine hK.out _ _ (below_cell (hbA2.trans ((alloc_below0 wA2 _).mono hbA2.size)) _ _ HCN.out) (fun hS => ?_)
                clear hK K
                refine wpAnyH_done (by kernel_rfl) ?_ _
                gi_wp2_with fail
                gi_meet
                exact ⟨_, _, _, rfl, hbA2.size, World.alloc_heap_new wA2 _, own_below hoA2 (alloc_below0 wA2 _), hbA2.trans ((alloc_below0 wA2 _).mono hbA2.size)⟩
              · go_simp
                refine hK.out _ _ (below_cell (hbA1.trans ((alloc_below0 wA1 _).mono hbA1.size)) _ _ HCN.out) (fun hS => ?_)
                clear hK K
                refine wpAnyH_ready (rs := [8]) (by kernel_rfl) (by simp) ?_
                refine AllReadyH.cons rfl (fun K hK => ?_) AllReadyH.nil
                refine step_append_run rfl (.tmp 117) (.tmp 120) 36 rfl _ _ (by rfl) (by rfl) _ _ (hrA3 _) ?_
                simp only [Act.put, List.getElem_toArray, List.getElem_cons_zero, List.getElem_cons_succ, List.setIfInBounds_toArray, List.set_cons_zero, List.set_cons_succ]
                refine hK.out _ _ (below_cell (hbA3) _ _ HCN.out) (fun hS => ?_)
                clear hK K
                refine wpAnyH_ready (rs := [10]) (by kernel_rfl) (by simp) ?_
                refine AllReadyH.cons rfl (fun K hK => ?_) AllReadyH.nil
                go_simp
                refine hK.out _ _ (below_cell (hbA3.setCell (p := ⟨wA1.heap.size, 0, none⟩) hbA1.size _) _ _ HCN.out) (fun hS => ?_)
                clear hK K
                refine wpAnyH_done (by kernel_rfl) ?_ _
                gi_wp2_with fail
                gi_meet
                exact ⟨_, _, _, rfl, hbA1.size, turned_fin (hbA3) (hbA1.size) (hkA3 _ _ (World.alloc_heap_new wA1 _)) hoA3⟩
            · go_simp
              refine hK.out _ _ (below_cell (bB.out) _ _ HCN.out) (fun hS => ?_)
              clear hK K
              refine wpAnyH_ready (rs := [4]) (by kernel_rfl) (by simp) ?_
              refine AllReadyH.cons rfl (fun K hK => ?_) AllReadyH.nil
              refine step_append_run rfl (.tmp 113) (.tmp 116) 36 rfl _ _ (by rfl) (by rfl) _ _ (hrB _) ?_
              simp only [Act.put, List.getElem_toArray, List.getElem_cons_zero, List.getElem_cons_succ, List.setIfInBounds_toArray, List.set_cons_zero, List.set_cons_succ]
              refine hK.out _ _ (below_cell (hbB1) _ _ HCN.out) (fun hS => ?_)
              clear hK K
              refine wpAnyH_ready (rs := [8]) (by kernel_rfl) (by simp) ?_
              refine AllReadyH.cons rfl (fun K hK => ?_) AllReadyH.nil
              refine step_append_run rfl (.tmp 117) (.tmp 120) 36 rfl _ _ (by rfl) (by rfl) _ _ (hrB2 _) ?_
              simp only [Act.put, List.getElem_toArray, List.getElem_cons_zero, List.getElem_cons_succ, List.setIfInBounds_toArray, List.set_cons_zero, List.set_cons_succ]
              refine hK.out _ _ (below_cell (hbB2) _ _ HCN.out) (fun hS => ?_)
              clear hK K
              refine wpAnyH_ready (rs := [10]) (by kernel_rfl) (by simp) ?_
              refine AllReadyH.cons rfl (fun K hK => ?_) AllReadyH.nil
              go_simp
              refine hK.out _ _ (below_cell (hbB2.setCell (p := ⟨W2.heap.size + 1, 0, none⟩) (Nat.le_succ _) _) _ _ HCN.out) (fun hS => ?_)
              clear hK K
              refine wpAnyH_done (by kernel_rfl) ?_ _
              gi_wp2_with fail
              gi_meet
              exact ⟨_, _, _, rfl, Nat.le_succ _, turned_fin (hbB2) (Nat.le_succ _) (hkB2 _ _ (hkB1 _ _ boxB.out)) hoB2⟩
          · go_simp
            refine hK.out _ _ (below_cell (bC0.out) _ _ HCN.out) (fun hS => ?_)
            clear hK K
            refine wpAnyH_ready (rs := [0]) (by kernel_rfl) (by simp) ?_
            refine AllReadyH.cons rfl (fun K hK => ?_) AllReadyH.nil
            go_simp
            refine hK.out _ _ (below_cell (bC.out) _ _ HCN.out) (fun hS => ?_)
            clear hK K
            refine wpAnyH_ready (rs := [4]) (by kernel_rfl) (by simp) ?_
            refine AllReadyH.cons rfl (fun K hK => ?_) AllReadyH.nil
            refine step_append_run rfl (.tmp 113) (.tmp 116) 36 rfl _ _ (by rfl) (by rfl) _ _ (hrC _) ?_
            simp only [Act.put, List.getElem_toArray, List.getElem_cons_zero, List.getElem_cons_succ, List.setIfInBounds_toArray, List.set_cons_zero, List.set_cons_succ]
            refine hK.out _ _ (below_cell (hbC1) _ _ HCN.out) (fun hS => ?_)
            clear hK K
            refine wpAnyH_ready (rs := [8]) (by kernel_rfl) (by simp) ?_
            refine AllReadyH.cons rfl (fun K hK => ?_) AllReadyH.nil
            refine step_append_run rfl (.tmp 117) (.tmp 120) 36 rfl _ _ (by rfl) (by rfl) _ _ (hrC2 _) ?_
            simp only [Act.put, List.getElem_toArray, List.getElem_cons_zero, List.getElem_cons_succ, List.setIfInBounds_toArray, List.set_cons_zero, List.set_cons_succ]
            refine hK.out _ _ (below_cell (hbC2) _ _ HCN.out) (fun hS => ?_)
            clear hK K
            refine wpAnyH_ready (rs := [10]) (by kernel_rfl) (by simp) ?_
            refine AllReadyH.cons rfl (fun K hK => ?_) AllReadyH.nil
            go_simp
            refine hK.out _ _ (below_cell (hbC2.setCell (p := ⟨W2.heap.size, 0, none⟩) (Nat.le_refl _) _) _ _ HCN.out) (fun hS => ?_)
            clear hK K
            refine wpAnyH_done (by kernel_rfl) ?_ _
            gi_wp2_with fail
            gi_meet
            exact ⟨_, _, _, rfl, Nat.le_refl _, turned_fin (hbC2) (Nat.le_refl _) (hkC2 _ _ (hkC1 _ _ boxC.out)) hoC2⟩
        case rest =>
          obtain ⟨B, pt, ct, rfl, hB, hbox, hown, hbw⟩ := hcut
          obtain ⟨tw, htw⟩ : ∃ tw, (rowsN m.length k.length v).drop n ++ (rowsN m.length k.length v).take n = tw := ⟨_, rfl⟩
          have hrt := turned_rows HWY2.out (rowsN_len _ _ _) (Nat.le_of_lt hnT) hT5 HCLL.out HCL.out hbw hown
          rw [htw] at hrt
          have htl : tw.length = k.length := by rw [← htw, List.length_append, List.length_drop, List.length_take, rowsN_len]; omega
          have htm : tw ∈ WW e k' m := by
            rw [← htw, ← HKK.out]
            exact turn_mem (fun x hx => (HF.out.often x hx).1) (way_rows (fun x hx => (HF.out.often x hx).1) HVM.out)
          obtain ⟨I, hI⟩ : ∃ I, wc.heap.size = I := ⟨_, rfl⟩
          have hBI : B < I := by rw [← hI]; exact (Array.getElem?_eq_some_iff.1 hbox).1
          have h2I : W2.heap.size ≤ I := by rw [← hI]; exact hbw.size
          obtain ⟨W3, hW3⟩ : ∃ W3, wc.alloc (.cells #[.bool false] 4) = W3 := ⟨_, rfl⟩
          have b3 : Below wc.heap.size wc W3 := by rw [← hW3]; exact alloc_below0 _ _
          have t3 : W3.heap[I]? = some (.cells #[.bool false] 4 (0, 0)) := by rw [← hI, ← hW3]; exact World.alloc_heap_new wc _
          have s3 : W3.heap.size = I + 1 := by rw [← hW3, World.size_alloc, hI]
          have hO2 : O < W2.heap.size := by have := (Array.getElem?_eq_some_iff.1 HL2.out).1; omega
          have hco3 : W3.cell? ⟨O, 0, none⟩ = some (.func (.func 28) #[] #[.pointer (some ⟨X', 0, none⟩), .pointer (some ⟨Fb', 0, none⟩)]) := below_cell b3 _ _ (below_cell hbw _ _ (cell_box HOC.out rfl))
          have HBW := hid hbw; have HBX := hid hbox; have HRT := hid hrt; have HTL := hid htl; have HTM := hid htm; have HTW2 := hid htw; have HI := hid hI; have HBI := hid hBI; have H2I := hid h2I; have HB3' := hid b3; have HT3 := hid t3; have HS3 := hid s3; have HO2 := hid hO2
          have HL3 : Hid (W3.heap[O + 1 + 1]? = some (.loop { r with state := .busy })) := hid ((b3.block _ (Nat.lt_of_lt_of_le (Array.getElem?_eq_some_iff.1 HL2.out).1 hbw.size)).trans ((hbw.block _ (Array.getElem?_eq_some_iff.1 HL2.out).1).trans HL2.out))
          clear hB hbox hown hbw hrt htl htm htw hBI h2I b3 t3 s3 hO2 A1 A2 hrA hrA2 hrA3 hrB hrB2 hrC hrC2 hoA1 hoA2 hoA3 hoB1 hoB2 hoC1 hoC2 hbA1 hbA2 hbA3 hbB1 hbB2 hbC1 hbC2 hkA1 hkA2 hkA3 hkB1 hkB2 hkC1 hkC2 xA3 fA3 xB2 fB2 xC2 fC2 hnT' g1 g2 hc0 hc1 hnTz hcz hne hbz
          have hco4 : (wc.alloc (.cells #[.bool false] 4)).cell? ⟨O, 0, none⟩ = some (.func (.func 28) #[] #[.pointer (some ⟨X', 0, none⟩), .pointer (some ⟨Fb', 0, none⟩)]) := by rw [hW3]; exact hco3
          have HW3 := hid hW3
          clear hW3
          gi_wp2_with fail
          rw [HW3.out]
          clear hco3 hco4
          refine range_inner rfl HL3.out (fun h => by cases h) (gf := 28) (lb := #[.pointer (some ⟨X', 0, none⟩), .pointer (some ⟨Fb', 0, none⟩)]) rfl trivial (enters_of Tryd.func28 (by kernel_rfl) rfl) ?_
          intro r2 k1 k2 k3 k4 k5 k6 k7
          rw [HS3.out]
          obtain ⟨W4, hW4⟩ : ∃ W4, W3.alloc (.loop r2) = W4 := ⟨_, rfl⟩
          have b4 : Below W3.heap.size W3 W4 := by rw [← hW4]; exact alloc_below0 _ _
          have l4 : W4.heap[I + 1]? = some (.loop r2) := by rw [← hW4, ← HS3.out]; exact World.alloc_heap_new W3 _
          have s4 : W4.heap.size = I + 2 := by rw [← hW4, World.size_alloc, HS3.out]
          have t4 : W4.heap[I]? = some (.cells #[.bool false] 4 (0, 0)) := (b4.block _ (by rw [HS3.out]; omega)).trans HT3.out
          have bc4 : Below wc.heap.size wc W4 := HB3'.out.trans (b4.mono HB3'.out.size)
          have b24 : Below W2.heap.size W2 W4 := HBW.out.trans (bc4.mono HBW.out.size)
          have hB4 : W4.heap[B]? = some (.cells #[.slice pt k.length ct] 36 (0, 0)) := (bc4.block _ (by rw [hI]; exact HBI.out)).trans HBX.out
          rw [hW4]
          have B4 := hid b4; have L4 := hid l4; have S4 := hid s4; have T4 := hid t4; have BC4 := hid bc4; have B24 := hid b24; have HB4 := hid hB4
          clear hW4 b4 l4 s4 t4 bc4 b24 hB4
          have HSM4 : Hid (∀ b, b < O + 1 → W4.heap[b]? = W11.heap[b]?) := hid fun b hb => (B24.out.block _ (by have := HO2.out; omega)).trans (HSM2.out b hb)
          have HD10' : Hid (DlAt W11 X' m.length p10 k.length c10 f10) := hid (HD10.out.below (HOO.out.symm ▸ HB11.out))
          have HCR10' : Hid (CRow W11 w9.heap.size p10 c10 (up k')) := hid (HCR10.out.below (HOO.out.symm ▸ HB11.out))
          have HFB10' : Hid (W11.heap[Fb']? = some (.cells (dC ⟨[], m, needN e k'⟩).toArray 62 (0, 0))) := hid ((HB11.out.block _ (by rw [← HOO.out]; exact (Array.getElem?_eq_some_iff.1 HFB10.out).1)).trans HFB10.out)
          have HXL' : Hid (X' < O + 1) := hid (by have := HD10'.out.lt; have := HS11.out; omega)
          have HPK' : Hid (∀ g o, p10 = some ⟨g, o, none⟩ → g < O + 1) := hid fun g o e => by
            rcases HCR10'.out.2 with ⟨h1, _⟩ | ⟨g', cap, cur, h1, h2, h3, _⟩
            · rw [e] at h1; cases h1
            · rw [e] at h1
              cases h1
              have := (Array.getElem?_eq_some_iff.1 h3).1
              have := HS11.out
              omega
          have HSM5 : Hid (∀ j M W, InK W4 (I + 2) I r2 (WW e k' m) tw j M W → ∀ b, b < I → W.heap[b]? = W4.heap[b]?) := hid fun j M W h b hb => h.ak.blk (by rw [S4.out]; omega) (by omega) (by omega)
          have hOI : O + 1 ≤ I := by have := HO2.out; have := H2I.out; omega
          refine CallsIn.mono (CallsIn.inRound _ (callsIn_wide.2 (callsIn_wide.1 (all_in 0 (I + 1) X' Fb' m.length k'.length c10 p10 k' f10 ⟨[], m, needN e k'⟩ (InK W4 (I + 2) I r2 (WW e k' m) tw) (fun _ => False) W4 rfl HF'.out.often HF'.out.few HF'.out.takers HSV10.out (dl_ok e HF'.out) rfl ?_ ?_ ?_ ?_ ?_)))) ?_
          · exact (HSM4.out _ (by have := (Array.getElem?_eq_some_iff.1 HFB10'.out).1; have := HS11.out; omega)).trans HFB10'.out
          · rintro j M' M'' Wa Wb hj hf hm
            have hk : ∀ q, q < I + 2 → q < Wa.heap.size → Wb.heap[q]? = Wa.heap[q]? := fun q hq hq' => hf.same q hq' fun h => by have := hj.ak.mm _ h; omega
            have hz := hj.ak.sz
            exact ⟨hj.ak.go hf hm, (hk _ (by omega) (by omega)).trans hj.th, (hk _ (by omega) (by omega)).trans hj.lp⟩
          · rintro j M' Wa hj
            have hs : ∀ b, b < O + 1 → Wa.heap[b]? = W11.heap[b]? := fun b hb => (HSM5.out j M' Wa hj b (by omega)).trans (HSM4.out b hb)
            rw [HKL.out]
            refine ⟨HD10'.out.same (hs X' HXL'.out), (HCR10'.out.same fun b hb hb' => hs b (by rw [← HS11.out]; exact hb')).ints, fun q hq => (cell_same (hs 0 (by omega))).trans (HTW.out q hq), fun h => ?_, fun h => ?_, fun a o e h => ?_⟩
            · have := hj.ak.mm _ h; have := HXL'.out; omega
            · have := hj.ak.mm _ h; omega
            · have := hj.ak.mm _ h; have := HPK'.out a o e; omega
          · rintro m2 j M' Wa v' g' bs' hv' hj hM' hbs1' hbs2' hway'
            rw [wd_all m k' e] at hv'
            have hvm' : v' ∈ waysF m k' e := by
              obtain ⟨h1, h2⟩ := List.getElem?_eq_some_iff.1 hv'
              rw [← h2]; exact List.getElem_mem _
            have hlw : (WW e k' m)[j]? = some (rowsN m.length k.length v') := by
              rw [ways_rows (fun x hx => (HF'.out.often x hx).1), List.getElem?_map, hv', HKL.out]; rfl
            rw [HKL.out] at hway' ⊢
            have hth := memtk_succ (x := tw) hlw
            have HTHN := hid hth; have HMM' := hid hM'; have HB1' := hid hbs1'; have HB2'' := hid hbs2'; have HWY' := hid hway'; have HJ' := hid hj
            refine yield_by k5 k6 k3 k4 hj.lp k1 rfl k7 ?_
            have HRB := hid (And.intro k1 k2)
            clear hv' hvm' hM' hbs1' hbs2' hway' hj hlw hth k1 k2 k3 k4 k5 k6 k7
            simp only [List.zip_toArray, List.zip_cons_cons, List.zip_nil_right, List.foldl_toArray, List.foldl_cons, List.foldl_nil, List.setIfInBounds_toArray, List.set_cons_succ, List.set_cons_zero]
            gi_wp2_with fail
            refine ⟨HJ'.out.lp, ?_⟩
            have hltl : I + 1 < Wa.heap.size := (Array.getElem?_eq_some_iff.1 HJ'.out.lp).1
            have hbL' : I + 2 ≤ bs' := by have := S4.out; have := HB2''.out; omega
            obtain ⟨Wb, hWb⟩ : ∃ Wb, Wa.putObj (I + 1) (.loop { r2 with state := .busy }) = Wb := ⟨_, rfl⟩
            have hFb : Fr (fun b => b = I + 1) Wa Wb := by rw [← hWb]; exact fr_one _ _
            have hLb : Wb.heap[I + 1]? = some (.loop { r2 with state := .busy }) := by rw [← hWb]; exact World.putObj_heap_same hltl
            have hTb : Wb.heap[I]? = some (.cells #[.bool (decide (tw ∈ (WW e k' m).take j))] 4 (0, 0)) := (hFb.same _ (by omega) (by omega)).trans HJ'.out.th
            have hsb : ∀ b, b < I → Wb.heap[b]? = wc.heap[b]? := fun b hb => (hFb.same b (by omega) (by omega)).trans ((HSM5.out j M' Wa HJ'.out b hb).trans (BC4.out.block _ (by rw [hI]; exact hb)))
            have hWyb : WayAt Wb bs' g' m.length k.length (rowsN m.length k.length v') := HWY'.out.same fun b hb hb' => hFb.same b hb' (by omega)
            have hcb : Wb.cell? ⟨B, 0, none⟩ = some (.slice pt k.length ct) := cell_box ((hsb _ HBI.out).trans HBX.out) rfl
            have hRb : RowsAt Wb pt (tw.map up) := ⟨HRT.out.small, fun q hq => by
              obtain ⟨b1, o1, p1, c1, e1, e2, e3⟩ := HRT.out.cells q hq
              refine ⟨b1, o1, p1, c1, e1, (cell_same (hsb b1 (by rw [← hI]; exact World.block_lt_of_cell? wc _ e2))).trans e2, e3.small, fun q2 hq2 => ?_⟩
              obtain ⟨b2, o2, e4, e5⟩ := e3.cells q2 hq2
              exact ⟨b2, o2, e4, (cell_same (hsb b2 (by rw [← hI]; exact World.block_lt_of_cell? wc _ e5))).trans e5⟩⟩
            have hsr := sameR_any (some ⟨g', 0, none⟩) k.length ((rowsN m.length k.length v').map up) pt ct (tw.map up) Wb (hWyb.rows (rowsN_len _ _ _) hT5) hRb
            rw [rows_dec, List.length_map, List.length_map, rowsN_len, HTL.out] at hsr
            obtain ⟨t0, ht0⟩ : ∃ t0, decide (tw ∈ (WW e k' m).take j) = t0 := ⟨_, rfl⟩
            obtain ⟨t1, ht1⟩ : ∃ t1, decide (rowsN m.length k.length v' = tw) = t1 := ⟨_, rfl⟩
            rw [ht0] at hTb
            rw [ht1] at hsr
            have hthn := HTHN.out
            rw [ht0, ht1] at hthn
            have HTN := hid hthn; have HSR := hid hsr; have HFb := hid hFb; have HLb := hid hLb; have HTb := hid hTb
            rw [hWb]
            clear hltl hbL' hFb hLb hTb hsb hWyb hRb hsr ht0 ht1 hthn hWb
            gi_wp2_with fail
            refine ⟨trivial, (by intro h; cases h), (CallsIn.inRound _ (callsIn_wide.2 HSR.out)).mono ?_⟩
            rintro en Wc ⟨rfl, hbc⟩
            have hTc : Wc.heap[I]? = some (.cells #[.bool t0] 4 (0, 0)) := (hbc.block _ (Array.getElem?_eq_some_iff.1 HTb.out).1).trans HTb.out
            have hLc : Wc.heap[I + 1]? = some (.loop { r2 with state := .busy }) := (hbc.block _ (Array.getElem?_eq_some_iff.1 HLb.out).1).trans HLb.out
            have hFc : Fr (fun b => b = I ∨ b = I + 1) Wa Wc := (HFb.out.mono fun q hq => .inr hq).trans (Fr.of_below hbc)
            have hti : Wc.cell? ⟨I, 0, none⟩ = some (.bool t0) := cell_box hTc rfl
            have htf : Wc.frozen? ⟨I, 0, none⟩ = false := by simp [World.frozen?, hTc]
            have HTc := hid hTc; have HLc := hid hLc; have HFc := hid hFc
            clear hbc hTc hLc hFc
            have hRS := HRB.out
            have hbsI : I + 2 ≤ bs' := by have := S4.out; have := HB2''.out; omega
            have FIN : ∀ tv, tv = (t0 || t1) → (Wc.setCell ⟨I, 0, none⟩ (.bool tv)).heap[I + 1]? = some (.loop { r2 with state := .busy }) ∧ (∀ b, M' b → ((Wc.setCell ⟨I, 0, none⟩ (.bool tv)).putObj (I + 1) (.loop { r2 with state := .ready, pending := none })).heap[b]? = Wa.heap[b]?) ∧ Wa.heap.size ≤ ((Wc.setCell ⟨I, 0, none⟩ (.bool tv)).putObj (I + 1) (.loop { r2 with state := .ready, pending := none })).heap.size ∧ InK W4 (I + 2) I r2 (WW e k' m) tw (j + 1) M' ((Wc.setCell ⟨I, 0, none⟩ (.bool tv)).putObj (I + 1) (.loop { r2 with state := .ready, pending := none })) := by
              rintro tv rfl
              have g1 : (Wc.setCell ⟨I, 0, none⟩ (.bool (t0 || t1))).heap[I + 1]? = some (.loop { r2 with state := .busy }) := (set_far (by omega) _).trans HLc.out
              have g2 : (Wc.setCell ⟨I, 0, none⟩ (.bool (t0 || t1))).heap[I]? = some (.cells #[.bool (t0 || t1)] 4 (0, 0)) := block_set HTc.out _
              have g3 : Fr (fun b => b = I ∨ b = I + 1) Wa ((Wc.setCell ⟨I, 0, none⟩ (.bool (t0 || t1))).putObj (I + 1) (.loop { r2 with state := .ready, pending := none })) := HFc.out.trans (((fr_set Wc I 0 _).mono fun q hq => .inl hq).trans ((fr_one _ _).mono fun q hq => .inr hq))
              refine ⟨g1, fun b hb => g3.same b (by have := HMM'.out b hb; have := HB1'.out; omega) (by have := HJ'.out.ak.mm b hb; omega), g3.low.size, HJ'.out.ak.own g3, ?_, ?_⟩
              · rw [HTN.out]
                exact (World.putObj_heap_other (by omega)).trans g2
              · rw [World.putObj_heap_same (Array.getElem?_eq_some_iff.1 g1).1, loop_again hRS.1 hRS.2]
            have FIN := hid FIN
            clear hRS
            cases t0
            · gi_wp2_with fail
              obtain ⟨z1, z2, z3, z4⟩ := FIN.out t1 (by simp)
              first
                | exact ⟨z1, z2, z3, .inl ⟨rfl, z4⟩⟩
                | exact ⟨z1, z2, z3, rfl, z4⟩
            · gi_wp2_with fail
              obtain ⟨z1, z2, z3, z4⟩ := FIN.out true (by simp)
              first
                | exact ⟨z1, z2, z3, .inl ⟨rfl, z4⟩⟩
                | exact ⟨z1, z2, z3, rfl, z4⟩
          · refine ⟨⟨fun b hb => hb.elim, by rw [S4.out]; exact Nat.le_refl _, Fr.refl _ _⟩, ?_, L4.out⟩
            rw [T4.out]; simp
          · rintro en We ⟨hve, ⟨M', h⟩ | h⟩
            · have hth := h.th
              rw [wd_all m k' e] at hth
              have hll : (waysF m k' e).length = (WW e k' m).length := by rw [ways_rows (fun x hx => (HF'.out.often x hx).1), List.length_map]
              rw [hll, List.take_length, decide_eq_true HTM.out] at hth
              have hbe : Below W2.heap.size W2 We := B24.out.trans (h.ak.fr.below (fun q hq => by have := H2I.out; omega) (by rw [S4.out]; have := H2I.out; omega))
              refine ⟨hve, .inl ⟨h.lp, ?_⟩⟩
              obtain ⟨WZ, hWZ⟩ : ∃ WZ, We.putObj (I + 1) (.loop { r2 with state := .exhausted }) = WZ := ⟨_, rfl⟩
              have hsz := h.ak.sz
              have hbz : Below W2.heap.size W2 WZ := by rw [← hWZ]; exact hbe.trans ((fr_one (I + 1) _).below (fun q hq => by have := H2I.out; omega) hbe.size)
              have htz : WZ.cell? ⟨I, 0, none⟩ = some (.bool true) := by rw [← hWZ]; exact cell_box ((World.putObj_heap_other (by omega)).trans hth) rfl
              rw [hWZ]
              have HBZ := hid hbz
              rename_i K1 hK1
              clear hth hll hbe hWZ hbz h hve
              first
                | refine hK1 _ _ ?_
                | skip
              clear hK1
              gi_wp2_with fail
              have hlz : WZ.heap[O + 1 + 1]? = some (.loop { r with state := .busy }) := (HBZ.out.block _ (Array.getElem?_eq_some_iff.1 HL2.out).1).trans HL2.out
              have hFZ : Fr (fun b => b = O + 1 + 1) W (WZ.putObj (O + 1 + 1) (.loop { r with state := .ready, pending := none })) := HF2.out.trans ((Fr.of_below HBZ.out).trans (fr_one _ _))
              have hfin : PlK Ws (O + 3) (O + 1 + 1) r M (WZ.putObj (O + 1 + 1) (.loop { r with state := .ready, pending := none })) := ⟨HJ.out.ak.own hFZ, by rw [World.putObj_heap_same (Array.getElem?_eq_some_iff.1 hlz).1, loop_again hr1 hr2]⟩
              have hmk : ∀ b, M b → (WZ.putObj (O + 1 + 1) (.loop { r with state := .ready, pending := none })).heap[b]? = W.heap[b]? := fun b hb => hFZ.same b (by have := HMM.out b hb; have := HB1.out; omega) (by have := HJ.out.ak.mm b hb; omega)
              first
                | exact ⟨hlz, hmk, hFZ.low.size, rfl, hfin⟩
                | exact ⟨hlz, hmk, hFZ.low.size, .inl ⟨rfl, hfin⟩⟩
            · cases h
      · exact ⟨⟨fun b hb => hb.elim, by rw [HSS.out]; exact Nat.le_refl _, Fr.refl _ _⟩, HLP.out⟩
      · rintro en W ⟨hve, ⟨M, h⟩ | h⟩
        · have hfr := h.ak.fr
          have hO1 : w.heap.size + 2 ≤ O := HS10.out
          have hdeq : W.heap[O + 1]? = some (.deferred (some [])) := (hfr.same _ (by rw [HSS.out]; omega) (by omega)).trans HDF.out
          have hbW : Below w.heap.size w W := HB10.out.trans ((HB11.out.mono (by omega)).trans ((HBS.out.mono (by rw [HS11.out]; omega)).trans (hfr.below (fun q hq => by omega) (by rw [HSS.out]; omega))))
          have hres : W.heap[w.heap.size + 1]? = some (.cells #[.bool false] 4 (0, 0)) := (HSM.out M W h _ (by omega)).trans ((HB11.out.block _ (by omega)).trans HQR.out)
          have hlw : O + 1 + 1 < W.heap.size := by have := hfr.low.size; rw [HSS.out] at this; omega
          refine ⟨hve, hdeq, .inl ⟨h.lp, ?_⟩⟩
          obtain ⟨WZ, hWZ⟩ : ∃ WZ, W.putObj (O + 1 + 1) (.loop { r with state := .exhausted }) = WZ := ⟨_, rfl⟩
          have hDZ : WZ.heap[O + 1]? = some (.deferred (some [])) := by rw [← hWZ]; exact (World.putObj_heap_other (by omega)).trans hdeq
          have hBZ : Below w.heap.size w WZ := by rw [← hWZ]; exact hbW.trans ((fr_one (O + 1 + 1) _).below (fun q hq => by omega) hbW.size)
          have hRZ : WZ.heap[w.heap.size + 1]? = some (.cells #[.bool false] 4 (0, 0)) := by rw [← hWZ]; exact (World.putObj_heap_other (by omega)).trans hres
          have hcz : WZ.cell? ⟨w.heap.size + 1, 0, none⟩ = some (.bool false) := cell_box hRZ rfl
          have hfz : WZ.frozen? ⟨w.heap.size + 1, 0, none⟩ = false := by simp [World.frozen?, hRZ]
          rw [hWZ]
          have E2 := hid hDZ; have E4 := hid hBZ
          rename_i K1 hK1
          clear hfr hdeq hbW hres hWZ hDZ hBZ hRZ h hve
          refine hK1 _ _ ?_
          clear hK1
          go_wp2_with fail
          have hDD : (WZ.setCell ⟨w.heap.size + 1, 0, none⟩ (.bool true)).heap[O + 1]? = some (.deferred (some [])) := (set_far (by omega) _).trans E2.out
          have hBE : Below w.heap.size w (WZ.setCell ⟨w.heap.size + 1, 0, none⟩ (.bool true)) := E4.out.setCell (p := ⟨w.heap.size + 1, 0, none⟩) (by show w.heap.size ≤ w.heap.size + 1; omega) _
          refine ⟨by simp, .inl ⟨_, _, rfl, run_takeDeferred hDD, ?_⟩⟩
          refine ⟨_, results_c1 rfl rfl (load_bool (v := true) ?_), rfl, hBE.trans ((fr_one _ _).below (n := w.heap.size) (fun q hq => by omega) hBE.size)⟩
          exact (cell_same (World.putObj_heap_other (by show w.heap.size + 1 ≠ O + 1; omega))).trans (World.cell?_setCell_same _ _ _ hcz)
        · cases h
theorem who_walk (a b : Option Addr) (c d : Nat) (m k : List Int) (e : Bool) (turn : Nat) (w : World) (hM : IntsAt w a m) (hK : IntsAt w b k) (hTab : Tab w) (ha : a = none → c = 0) (hb : b = none → d = 0) (hturn : turn < 256) (hcap : k.length ≤ d) :
    Calls Tryd.prog 7 #[.agg #[.slice a m.length c, .slice b k.length d, .bool e], .int .u8 (turn : Int)] w fun en w' => en = .returned (.bool true) ∧ Below w.heap.size w w' := by
  by_cases h : chkE m k ≠ 0 ∨ k.length = 0
  · exact who_bad a b c d m k e turn w hM hK hTab h
  · rw [not_or] at h
    obtain ⟨M, K, rfl, rfl, hF⟩ := chk_fine (Classical.not_not.1 h.1)
    rw [up_len] at h hcap ⊢
    rw [up_len]
    exact who_fine a b c d M K e turn w hM hK hTab hF (by omega) ha hb hturn hcap
end Go.Proofs.YtdpdpjfnanjmgaaDoor
