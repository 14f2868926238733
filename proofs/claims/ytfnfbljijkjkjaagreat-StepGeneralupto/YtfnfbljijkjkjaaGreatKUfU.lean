import Derived.Test.YtfnfbljijkjkjaaGreatKUfT
/- told of the solver. -/
namespace Go.Proofs.YtfnfbljijkjkjaaGreat
open Go.RowKit Go.Deep

/-- Four cells stored. -/
def set4 (W : World) (g o : Nat) (b : Bk) : World := (((W.setCell ⟨g, o, none⟩ (.string b.1)).setCell ⟨g, o + 1, none⟩ (.string b.2.x.1)).setCell ⟨g, o + 2, none⟩ (.int .i64 b.2.x.2)).setCell ⟨g, o + 3, none⟩ (.slice b.2.a (lenF b.2.l) b.2.c)
theorem set4_far {W : World} {g q : Nat} (h : q ≠ g) (o : Nat) (b : Bk) : (set4 W g o b).heap[q]? = W.heap[q]? := (set_far h _ _).trans ((set_far h _ _).trans ((set_far h _ _).trans (set_far h _ _)))
theorem set4_size (W : World) (g o : Nat) (b : Bk) : (set4 W g o b).heap.size = W.heap.size := by simp [set4]
theorem set4_below {n0 : Nat} {w W : World} {g : Nat} (hb : Below n0 w W) (h : n0 ≤ g) (o : Nat) (b : Bk) : Below n0 w (set4 W g o b) :=
  (((hb.setCell (p := ⟨g, o, none⟩) h _).setCell (p := ⟨g, o + 1, none⟩) h _).setCell (p := ⟨g, o + 2, none⟩) h _).setCell (p := ⟨g, o + 3, none⟩) h _
/-- A row of n binds, of which the first ones are these. -/
def BdRow (w : World) (g n : Nat) (ks : List Bk) : Prop := ∃ cur, w.heap[g]? = some (Obj.cells cur 38 (0, 0)) ∧ cur.size = n * 4 ∧ ∀ (i : Nat) (u : Value), (bdCells ks)[i]? = some u → cur[i]? = some u
theorem BdRow.keep {w w' : World} {g n : Nat} {ks : List Bk} (h : BdRow w g n ks) (hb : w'.heap[g]? = w.heap[g]?) : BdRow w' g n ks := by
  obtain ⟨cur, h1, h2⟩ := h; exact ⟨cur, hb.trans h1, h2⟩
theorem BdRow.lt {w : World} {g n : Nat} {ks : List Bk} (h : BdRow w g n ks) : g < w.heap.size := by
  obtain ⟨cur, h1, _⟩ := h; exact (Array.getElem?_eq_some_iff.1 h1).1
theorem BdRow.cell {w : World} {g n : Nat} {ks : List Bk} (h : BdRow w g n ks) {i : Nat} (hi : i < n * 4) : ∃ v, w.cell? ⟨g, i, none⟩ = some v := by
  obtain ⟨cur, h1, h2, _⟩ := h
  exact row_cell h1 (by omega)
theorem BdRow.frozen {w : World} {g n : Nat} {ks : List Bk} (h : BdRow w g n ks) (i : Nat) : w.frozen? ⟨g, i, none⟩ = false := by
  obtain ⟨cur, h1, _⟩ := h
  simp [World.frozen?, h1]
theorem bdCells_app (a b : List Bk) : bdCells (a ++ b) = bdCells a ++ bdCells b := by unfold bdCells; rw [List.flatMap_append]
theorem BdRow.push {w : World} {g n : Nat} {ks : List Bk} (h : BdRow w g n ks) {o : Nat} (ho : o = ks.length * 4) (hlt : o + 4 ≤ n * 4) (b : Bk) : BdRow (set4 w g o b) g n (ks ++ [b]) := by
  subst ho
  obtain ⟨cur, h1, h2, h3⟩ := h
  refine ⟨_, block_set (block_set (block_set (block_set h1 _) _) _) _, by simp [h2], fun i u hu => ?_⟩
  have hl := bdCells_len ks
  rw [bdCells_app] at hu
  simp only [Array.getElem?_setIfInBounds, Array.size_setIfInBounds]
  have e : bdCells [b] = [.string b.1, .string b.2.x.1, .int .i64 b.2.x.2, .slice b.2.a (lenF b.2.l) b.2.c] := rfl
  by_cases hc : i < ks.length * 4
  · rw [List.getElem?_append_left (by omega)] at hu
    rw [if_neg (by omega), if_neg (by omega), if_neg (by omega), if_neg (by omega)]
    exact h3 i u hu
  · rw [List.getElem?_append_right (by omega), hl, e] at hu
    have hi : i = ks.length * 4 ∨ i = ks.length * 4 + 1 ∨ i = ks.length * 4 + 2 ∨ i = ks.length * 4 + 3 := by
      have := (List.getElem?_eq_some_iff.1 hu).1
      simp only [List.length_cons, List.length_nil] at this
      omega
    rcases hi with rfl | rfl | rfl | rfl
    · rw [if_neg (by omega), if_neg (by omega), if_neg (by omega), if_pos rfl, if_pos (by omega)]
      rw [Nat.sub_self] at hu
      exact hu
    · rw [if_neg (by omega), if_neg (by omega), if_pos rfl, if_pos (by omega)]
      rw [show ks.length * 4 + 1 - ks.length * 4 = 1 by omega] at hu
      exact hu
    · rw [if_neg (by omega), if_pos rfl, if_pos (by omega)]
      rw [show ks.length * 4 + 2 - ks.length * 4 = 2 by omega] at hu
      exact hu
    · rw [if_pos rfl, if_pos (by omega)]
      rw [show ks.length * 4 + 3 - ks.length * 4 = 3 by omega] at hu
      exact hu
theorem binds_of_row {W : World} {g : Nat} {cur : Array Value} {ms : List Bk} (hg : W.heap[g]? = some (Obj.cells cur 38 (0, 0))) (hc : ∀ (j : Nat) (u : Value), (bdCells ms)[j]? = some u → cur[j]? = some u) (ht : ∀ b ∈ ms, TmAt W b.2.x b.2.a b.2.c b.2.l) (hn : ms.length ≤ 1048576) (hs : ∀ b ∈ ms, b.1.size ≤ maxLen) : BindsAt W (some ⟨g, 0, none⟩) (ms.map btn).length (ms.map btn) := by
  refine ⟨rfl, by rw [List.length_map]; unfold maxLen; omega, fun i hi => ?_, fun x hx => ?_⟩
  · rw [List.length_map] at hi
    obtain ⟨h0, h1, h2, h3⟩ := bd_at ms i hi
    have hcell : ∀ j u, (bdCells ms)[j]? = some u → W.cell? ⟨g, j, none⟩ = some u := fun j u hu => by rw [cell_of_row W g j cur 38 (0, 0) hg]; exact hc j u hu
    refine ⟨g, 0, ms[i].2.a, ms[i].2.c, rfl, ?_⟩
    rw [List.getElem_map, Nat.zero_add]
    exact ⟨hcell _ _ h0, hcell _ _ h1, hcell _ _ h2, hcell _ _ h3, ht _ (List.getElem_mem hi)⟩
  · obtain ⟨b, hb, rfl⟩ := List.mem_map.1 hx
    exact hs b hb
set_option maxRecDepth 100000 in
set_option maxHeartbeats 8000000 in
theorem told_ok : ToldOk := by
  intro w0 B v1 v2 n es bs w hS hnb hsz
  obtain ⟨i0, hi, hz0, hz1, hz2⟩ := info_parts Tryz.info38
  obtain ⟨p1, cap1, rfl, hcap, _, _⟩ := own_any hS.r2
  have HS := hid hS; have HSZ := hid hsz
  have c1 := hS.box.c 1
  obtain ⟨nb, hnn⟩ : ∃ nb, bs.length = nb := ⟨_, rfl⟩
  rw [hnn] at hnb c1 hcap
  have HNN := hid hnn
  have hw0 := hS.low.size
  clear hS hsz
  rw [hnn] at HS
  clear hnn
  go_enter Tryz.func30, Tryz.ntmps30
  go_wp2_with (at_make; refine wpList_make_full _ rfl _ _ 29 rfl w.heap.size 38 i0 (.agg #[.string ⟨#[]⟩, .string ⟨#[]⟩, .int .i64 0, .slice none 0 0]) 4 Tryz.underlying29 hi hz0 hz1 .i64 .i64 _ _ nb rfl rfl rfl rfl (by rw [hz2]; omega) (by unfold maxLen; omega) (by simp) ?_; intro wm hown0 hgrow0; have hb0 : Below w.heap.size w wm := (Below.refl _ _).grown hgrow0 (Nat.le_refl _) (fun k e => by cases e); have HB0 := hid hb0; have k1 := (HS.out.box.below hb0).c 1; have HR0 : Hid (BdRow wm w.heap.size nb []) := hid (by rcases hown0.2 with ⟨hv, _⟩ | ⟨g', cap', cur, hv, _, hh, _, _, hcs, _⟩ <;> first | (cases hv; done) | (cases hv; exact ⟨cur, hh, hcs, fun i u hu => by cases hu⟩)); clear hown0 hgrow0 hb0)
  clear k1
  go_loopw [17] (fun i wr => ∃ (j : Nat) (ds : List Bk), j ≤ nb ∧ i = .int .i64 j ∧ ds.length = j ∧ ds.map btn = (bs.take j).map btn ∧ Below w.heap.size w wr ∧ BdRow wr w.heap.size nb ds ∧ ∀ b ∈ ds, SepTm wr (fun q => w.heap.size < q) b.2.x b.2.a b.2.c b.2.l) (fun i _ => nb - (intOf i).toNat)
  case atStart => exact ⟨0, [], Nat.zero_le _, rfl, rfl, rfl, HB0.out, HR0.out, fun b hb => by cases hb⟩
  case round =>
    obtain ⟨j, ds, hj, rfl, hdl, hdm, hb, hrw, hsp⟩ := hrel
    have HBR := hid hb; have HRW := hid hrw; have HSP := hid hsp; have HDM := hid hdm; have HDL := hid hdl
    by_cases hlt : j < nb
    · have hjb : j < bs.length := by have := HNN.out; omega
      have hr2 := HS.out.r2
      rw [HNN.out] at hr2
      obtain ⟨g, rfl⟩ : ∃ g, p1 = some ⟨g, 0, none⟩ := by
        obtain ⟨g, cap, e, _⟩ := own_slice hr2 (by omega)
        cases e
        exact ⟨g, rfl⟩
      obtain ⟨h0, h1, h2, h3⟩ := owns_cellb hr2 hjb
      have hT := tmO_tm (HS.out.tb _ (List.getElem_mem hjb))
      have htk : (bs.take (j + 1)).map btn = (bs.take j).map btn ++ [btn bs[j]] := by rw [List.take_succ_eq_append_getElem hjb, List.map_append]; rfl
      generalize bs[j] = bb at h0 h1 h2 h3 hT htk
      obtain ⟨nm, ⟨⟨xn, xs⟩, l, a, d⟩⟩ := bb
      dsimp only at *
      have q0 := below_cell hb _ _ h0; have q1 := below_cell hb _ _ h1; have q2 := below_cell hb _ _ h2; have q3 := below_cell hb _ _ h3
      rw [show j * 4 + 1 + 1 = j * 4 + 2 by omega] at q2
      rw [show j * 4 + 1 + 2 = j * 4 + 3 by omega] at q3
      obtain ⟨E, hE⟩ : ∃ E, wr.alloc (.cells #[.string nm, .string xn, .int .i64 xs, .slice a (lenF l) d] 38) = E := ⟨_, rfl⟩
      have hbE : Below wr.heap.size wr E := by rw [← hE]; exact alloc_below0 wr _
      have bE : Box E wr.heap.size 38 #[.string nm, .string xn, .int .i64 xs, .slice a (lenF l) d] := by rw [← hE]; exact Box.new wr 38 _
      have HBE := hid hbE; have BE := hid bE; have HT := hid hT; have HTK := hid htk
      have HC := hid fun (W : World) (hW : Below E.heap.size E W) => clone_any (xn, xs) l a d W (HT.out.below ((HBR.out.trans (HBE.out.mono HBR.out.size)).trans (hW.mono (HBR.out.trans (HBE.out.mono HBR.out.size)).size)))
      have hcl : Hid (w.heap.size < wr.heap.size) := hid hrw.lt
      clear hb hrw hsp hdm hbE bE hT htk h0 h1 h2 h3 hr2
      go_upto_region 5 with fail
      clear hE q0 q1 q2 q3
      have d0 : E.drew.cell? ⟨wr.heap.size, 0, none⟩ = some (.string nm) := BE.out.c 0
      have d1 : E.drew.cell? ⟨wr.heap.size, 1, none⟩ = some (.string xn) := BE.out.c 1
      have d2 : E.drew.cell? ⟨wr.heap.size, 2, none⟩ = some (.int .i64 xs) := BE.out.c 2
      have d3 : E.drew.cell? ⟨wr.heap.size, 3, none⟩ = some (.slice a (lenF l) d) := BE.out.c 3
      have hjI : (j : Int) < (nb : Int) := by omega
      have hj0 : (0 : Int) ≤ (j : Int) := by omega
      go_region_with ((first
        | (go_at_call 41; (with_reducible refine Calls.mono (HC.out _ (Below.refl _ E).drew) ?_); rintro e x1 ⟨a3, c3, rfl, hs1, hb1, hzz⟩; clear hzz; have HS1 := hid hs1; have hb1' : Below E.heap.size E x1 := ((Below.refl _ E).drew).trans hb1; have HB1 := hid hb1'; have y0 : x1.cell? ⟨wr.heap.size, 0, none⟩ = some (.string nm) := (BE.out.below hb1').c 0; have hrow : BdRow x1 w.heap.size nb ds := HRW.out.keep ((hb1'.block _ (Nat.lt_of_lt_of_le hcl.out HBE.out.size)).trans (HBE.out.block _ hcl.out)); have HROW := hid hrow; have f0 := hrow.frozen (j * 4); have f1 := hrow.frozen (j * 4 + 1); have f2 := hrow.frozen (j * 4 + 2); have f3 := hrow.frozen (j * 4 + 3); obtain ⟨t0, s0⟩ := hrow.cell (i := j * 4) (by omega); obtain ⟨t1, s1⟩ := hrow.cell (i := j * 4 + 1) (by omega); obtain ⟨t2, s2⟩ := hrow.cell (i := j * 4 + 2) (by omega); obtain ⟨t3, s3⟩ := hrow.cell (i := j * 4 + 3) (by omega); clear hb1 hb1' hrow hs1)
        | fail))
      all_goals
        go_wp2_with fail
        have hlow : Below w.heap.size w x1 := (HBR.out.trans (HBE.out.mono HBR.out.size)).trans (HB1.out.mono (HBR.out.trans (HBE.out.mono HBR.out.size)).size)
        have hN : BdRow (set4 x1 w.heap.size (j * 4) (nm, ⟨(xn, xs), l, a3, c3⟩)) w.heap.size nb (ds ++ [(nm, ⟨(xn, xs), l, a3, c3⟩)]) := HROW.out.push (by rw [HDL.out]) (by omega) _
        have hL : Below w.heap.size w (set4 x1 w.heap.size (j * 4) (nm, ⟨(xn, xs), l, a3, c3⟩)) := set4_below hlow (Nat.le_refl _) _ _
        have hK : ∀ b ∈ ds ++ [(nm, (⟨(xn, xs), l, a3, c3⟩ : Kv))], SepTm (set4 x1 w.heap.size (j * 4) (nm, ⟨(xn, xs), l, a3, c3⟩)) (fun q => w.heap.size < q) b.2.x b.2.a b.2.c b.2.l := fun b hb => by
          rcases List.mem_append.1 hb with hb | hb
          · exact ((HSP.out b hb).below (HBE.out.trans (HB1.out.mono HBE.out.size))).keep fun q hq _ => set4_far (by omega) _ _
          · rw [List.mem_singleton.1 hb]
            refine SepTm.keep (fun q hq _ => set4_far (by omega) _ _) (HS1.out.mono fun q hq => ?_)
            have h5 := HBE.out.size
            have h6 : E.heap.size ≤ q := hq
            have h7 := hcl.out
            omega
        have HN := hid hN; have HL := hid hL; have HK := hid hK
        clear hN hL hK hlow
        go_roundw
        case rel => exact ⟨j + 1, ds ++ [(nm, (⟨(xn, xs), l, a3, c3⟩ : Kv))], by omega, by go_num, by rw [List.length_append, HDL.out]; rfl, by rw [HTK.out, List.map_append, HDM.out]; rfl, HL.out, HN.out, HK.out⟩
        case measure => simp [intOf]; omega
    · obtain rfl : j = nb := by omega
      obtain ⟨cur, h1, h2, h3⟩ := hrw
      have HSO := hid (sort_binds wr w.heap.size j cur ds h1 h3 (by omega))
      rw [hdl] at HSO
      have hall : bs.take j = bs := by rw [← HNN.out, List.take_length]
      rw [hall] at hdm
      have HDM2 := hid hdm
      clear hb hsp hdm h1 h3 hall
      go_wp2_with (go_at_call 51; refine HSO.out.mono ?_; rintro e w5 ⟨rfl, ms, cur', hpm, hso, hg5, hc5, hf5⟩; have HX := hid (show List.Perm ms ds ∧ ms.Pairwise (fun x y => 0 ≤ cmpB y x) ∧ w5.heap[w.heap.size]? = some (Obj.cells cur' 38 (0, 0)) ∧ (∀ (j : Nat) (u : Value), (bdCells ms)[j]? = some u → cur'[j]? = some u) ∧ Fr (fun q => q = w.heap.size) wr w5 from ⟨hpm, hso, hg5, hc5, hf5⟩); clear hpm hso hg5 hc5 hf5)
      go_ret
      obtain ⟨hpm, hso, hg5, hc5, hf5⟩ := HX.out
      have hml : ms.length = j := hpm.length_eq.trans HDL.out
      refine ⟨some ⟨w.heap.size, 0, none⟩, j, ms.map btn, by rw [List.length_map, hml]; rfl, binds_of_row hg5 hc5 (fun b hb => ((HSP.out b (hpm.mem_iff.1 hb)).keep fun q hq hlt2 => hf5.same q hlt2 (fun e => by omega)).tm) (by omega) (fun b hb => ?_), (hpm.map btn).trans (by rw [HDM2.out]), ?_, below_fr (HS.out.low.trans (HBR.out.mono hw0)) hf5 (fun q hq => by omega) (Nat.le_trans hw0 HBR.out.size)⟩
      · have h5 : btn b ∈ ds.map btn := List.mem_map_of_mem (hpm.mem_iff.1 hb)
        rw [HDM2.out] at h5
        obtain ⟨b', hb', e⟩ := List.mem_map.1 h5
        have e2 : b'.1 = b.1 := congrArg (fun z : ByteArray × Tn => z.1) e
        rw [← e2]
        exact HSZ.out b' hb'
      · rw [List.pairwise_map]
        exact hso
end Go.Proofs.YtfnfbljijkjkjaaGreat
