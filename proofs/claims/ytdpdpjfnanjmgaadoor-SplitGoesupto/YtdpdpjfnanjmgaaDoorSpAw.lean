/- SplitGoes' walk, up to its two turns. -/
import Derived.Test.YtdpdpjfnanjmgaaDoorSpAy
namespace Go.Proofs.YtdpdpjfnanjmgaaDoor
open Go.RowKit Go.Shelf

attribute [local go_sem] Oper.semAt_some
/-- How many ways are gone through at most. -/
theorem most_in (n : Int) : ∃ M : Nat, 1 ≤ M ∧ M ≤ 500 ∧ (n.tmod 500 < 1 ∧ 1 - n.tmod 500 = (M : Int) ∨ ¬ n.tmod 500 < 1 ∧ n.tmod 500 = (M : Int)) := by
  have h1 := Int.tmod_lt_of_pos n (show (0 : Int) < 500 by decide)
  have h2 : -500 < n.tmod 500 := Int.lt_tmod_of_pos n (by decide)
  by_cases h : n.tmod 500 < 1
  · exact ⟨(1 - n.tmod 500).toNat, by omega, by omega, .inl ⟨h, by omega⟩⟩
  · exact ⟨(n.tmod 500).toNat, by omega, by omega, .inr ⟨h, by omega⟩⟩
/-- Three boxes. -/
theorem goes_boxes (w : World) (v : Array Value) (n : Int) : ∃ W1, ((w.alloc (.cells v 29)).alloc (.cells #[.int .i64 n] 3)).alloc (.cells #[.bool false] 4) = W1 ∧ Below w.heap.size w W1 ∧ W1.heap[w.heap.size]? = some (.cells v 29 (0, 0)) ∧ W1.heap[w.heap.size + 1]? = some (.cells #[.int .i64 n] 3 (0, 0)) ∧ W1.heap[w.heap.size + 2]? = some (.cells #[.bool false] 4 (0, 0)) ∧ W1.heap.size = w.heap.size + 3 := by
  have b1 := alloc_below0 w (.cells v 29)
  have b2 := alloc_below0 (w.alloc (.cells v 29)) (.cells #[.int .i64 n] 3)
  have b3 := alloc_below0 ((w.alloc (.cells v 29)).alloc (.cells #[.int .i64 n] 3)) (.cells #[.bool false] 4)
  refine ⟨_, rfl, b1.trans ((b2.mono (by simp)).trans (b3.mono (by simp; omega))), (b3.block _ (by simp; omega)).trans ((b2.block _ (by simp)).trans (World.alloc_heap_new w _)), ?_, ?_, by simp⟩
  · have h9 := World.alloc_heap_new (w.alloc (.cells v 29)) (.cells #[.int .i64 n] 3)
    rw [World.size_alloc] at h9
    exact (b3.block _ (by simp)).trans h9
  · have h9 := World.alloc_heap_new ((w.alloc (.cells v 29)).alloc (.cells #[.int .i64 n] 3)) (.cells #[.bool false] 4)
    rw [World.size_alloc, World.size_alloc] at h9
    exact h9
set_option maxRecDepth 100000 in
set_option maxHeartbeats 16000000 in
theorem goes_main (a b : Option Addr) (c d : Nat) (m k : List Int) (e : Bool) (n0 : Int) (w : World) (hM : IntsAt w a m) (hK : IntsAt w b k) (hTab : Tab w) (ha : a = none → c = 0) (hb0 : b = none → d = 0) (hml : m.length ≤ 1048576) (hkl : k.length ≤ 1048576) (K T : Nat) (L : List (List Nat)) (hT : T ≤ 5) (ck : Int) (hck : chkE m k = ck)
    (hall : ∀ (M : Nat) (W : World), 1 ≤ M → M ≤ 1000 → Below w.heap.size w W → Calls Tryd.prog 11 #[.slice a m.length c, .slice b k.length d, .bool e, .int .i64 (M : Int)] W fun en W' => ∃ po oc, en = .returned (.slice po ((L.map (rowsN K T)).take M).length oc) ∧ WaysZ W' W.heap.size (.slice po ((L.map (rowsN K T)).take M).length oc) ((L.map (rowsN K T)).take M) ∧ Below W.heap.size W W')
    (hcnt : ∀ (M : Nat) (W : World) p c q d, M ≤ 1000 → IntsAt W p m → IntsAt W q k → Tab W → Calls Tryd.prog 9 #[.slice p m.length c, .slice q k.length d, .bool e, .int .i64 (M : Int)] W fun en W' => en = .returned (.tuple #[.int .i64 ((min L.length M : Nat) : Int), .int .i64 ck]) ∧ Below W.heap.size W W')
    (hseq : ∀ (W : World) p c q d, IntsAt W p m → IntsAt W q k → (p = none → c = 0) → Tab W → Calls Tryd.prog 12 #[.slice p m.length c, .slice q k.length d, .bool e] W fun en W' => ∃ gf lb B Keep, en = .returned (.func (.func gf) #[] lb) ∧ SeqOk B K T Keep L gf lb ∧ Keep W' ∧ (∀ b, B b → b = 0 ∨ W.heap.size ≤ b ∧ b < W'.heap.size) ∧ Below W.heap.size W W') :
    Calls Tryd.prog 4 #[.agg #[.slice a m.length c, .slice b k.length d, .bool e], .int .i64 n0] w fun en w' => en = .returned (.bool true) ∧ Below w.heap.size w w' := by
  obtain ⟨W1, hW1, hb, hx, hq, hr, hs1⟩ := goes_boxes w #[.slice a m.length c, .slice b k.length d, .bool e] n0
  have HL := hid (lives_any W1 (hTab.below hb))
  have HB := hid hb; have HX := hid hx; have HQ := hid hq; have HR := hid hr; have HM := hid hM; have HK := hid hK; have HTAB := hid hTab; have HA := hid ha; have HB0 := hid hb0; have HS1 := hid hs1; have HALL := hid hall; have HCNT := hid hcnt; have HSEQ := hid hseq; have HCK := hid hck
  clear hb hx hq hr hM hK hTab ha hb0 hs1 hall hcnt hseq hck
  obtain ⟨M, hM1, hM5, hMM⟩ := most_in n0
  obtain ⟨rm, hrm⟩ : ∃ rm, n0.tmod 500 = rm := ⟨_, rfl⟩
  rw [hrm] at hMM
  refine (callsIn_wide (n := 14)).1 ?_
  refine callsIn_of_wp_marks Tryd.func4 rfl trivial (wpIn_wide.2 ?_) rfl
  simp only [Tryd.ntmps4, List.size_toArray, List.length_cons, List.length_nil, Nat.reduceAdd, Nat.reduceSub, Array.replicate_succ, Array.replicate_zero, List.push_toArray, List.append_toArray, List.nil_append, List.cons_append]
  go_wp2_with fail
  refine HL.out.mono ?_
  rintro en w2 ⟨rfl, hb2⟩
  have hx2 := (hb2.block _ (Array.getElem?_eq_some_iff.1 HX.out).1).trans HX.out
  have hq2 := (hb2.block _ (Array.getElem?_eq_some_iff.1 HQ.out).1).trans HQ.out
  have hr2 := (hb2.block _ (Array.getElem?_eq_some_iff.1 HR.out).1).trans HR.out
  have hc0 : w2.cell? ⟨w.heap.size, 0, none⟩ = some (.slice a m.length c) := cell_box hx2 rfl
  have hc1 : w2.cell? ⟨w.heap.size, 1, none⟩ = some (.slice b k.length d) := cell_box hx2 rfl
  have hc2 : w2.cell? ⟨w.heap.size, 2, none⟩ = some (.bool e) := cell_box hx2 rfl
  have hcq : w2.cell? ⟨w.heap.size + 1, 0, none⟩ = some (.int .i64 n0) := cell_box hq2 rfl
  have hff : w2.frozen? ⟨w.heap.size + 1, 0, none⟩ = false := by simp [World.frozen?, hq2]
  have HB2 := hid (HB.out.trans (hb2.mono HB.out.size))
  have HX2 := hid hx2; have HQ2 := hid hq2; have HR2 := hid hr2
  have HS2 : Hid (w.heap.size + 3 ≤ w2.heap.size) := hid (by have := HS1.out; have := hb2.size; omega)
  clear hb2 hx2 hq2 hr2 hW1 HL
  have wR : IntKind.i64.wrap (1 - rm) = 1 - rm := IntWalk.i64_in _ (by constructor <;> omega)
  go_upto_if 34 with (fail)
  go_cut [3] from 35 to 36 (fun s w' => s = .pointer (some ⟨w.heap.size + 1, 0, none⟩) ∧ Fr (fun b => b = w.heap.size + 1) w2 w' ∧ w'.heap[w.heap.size + 1]? = some (.cells #[.int .i64 (M : Int)] 3 (0, 0)))
  case first =>
    rcases hMM with ⟨h1, h2⟩ | ⟨h1, h2⟩
    · go_wp2_with fail
      go_meet
      all_goals exact ⟨rfl, (fr_set _ _ _ _).trans (fr_set _ _ _ _), by rw [← h2]; exact block_set (block_set HQ2.out _) _⟩
    · go_wp2_with fail
      go_meet
      all_goals exact ⟨rfl, fr_set _ _ _ _, by rw [← h2]; exact block_set HQ2.out _⟩
  case rest =>
  obtain ⟨rfl, hfq, hbq⟩ := hcut
  have hbwc : Below w.heap.size w wc := HB2.out.trans (hfq.below (n := w.heap.size) (fun q hq => by omega) HB2.out.size)
  have hqc : wc.cell? ⟨w.heap.size + 1, 0, none⟩ = some (.int .i64 (M : Int)) := cell_box hbq rfl
  have hxc : wc.heap[w.heap.size]? = some (.cells #[.slice a m.length c, .slice b k.length d, .bool e] 29 (0, 0)) := (hfq.same _ (by have := HS2.out; omega) (by omega)).trans HX2.out
  have hrc : wc.heap[w.heap.size + 2]? = some (.cells #[.bool false] 4 (0, 0)) := (hfq.same _ (by have := HS2.out; omega) (by omega)).trans HR2.out
  have hwc3 : w.heap.size + 3 ≤ wc.heap.size := Nat.le_trans HS2.out hfq.low.size
  have w1' : IntKind.i64.wrap ((M : Int) + 1) = ((M + 1 : Nat) : Int) := (IntWalk.i64_in _ (by constructor <;> omega)).trans (by omega)
  have HBWC := hid hbwc; have HQC := hid hbq; have HXC := hid hxc; have HRC := hid hrc; have HWC := hid hwc3
  have hal := HALL.out (M + 1) wc (by omega) (by omega) hbwc
  obtain ⟨WS, hWS⟩ : ∃ WS, (L.map (rowsN K T)).take (M + 1) = WS := ⟨_, rfl⟩
  rw [hWS] at hal
  have HWS := hid hWS; have HAL := hid hal
  clear hfq hbq hbwc hxc hrc hwc3 hal hWS hc0 hc1 hc2 hcq hff hMM wR
  go_wp2_with fail
  refine HAL.out.mono ?_
  rintro en w4 ⟨po, oc, rfl, hways, hb4⟩
  have hb4' := HBWC.out.trans (hb4.mono HBWC.out.size)
  obtain ⟨w5, hw5⟩ : ∃ w5, w4.alloc (.cells #[.slice po WS.length oc] 30) = w5 := ⟨_, rfl⟩
  have hb5 : Below w4.heap.size w4 w5 := by rw [← hw5]; exact alloc_below0 _ _
  have hbox5 : w5.heap[w4.heap.size]? = some (.cells #[.slice po WS.length oc] 30 (0, 0)) := by rw [← hw5]; exact World.alloc_heap_new w4 _
  have hs5 : w5.heap.size = w4.heap.size + 1 := by rw [← hw5, World.size_alloc]
  have hb5' := hb4'.trans (hb5.mono hb4'.size)
  obtain ⟨px, cx, w6, hr6, hC6, hb6⟩ := copyI (HM.out.below hb5') HA.out hml
  have hb6' := hb5'.trans (hb6.mono hb5'.size)
  obtain ⟨py, cy, w7, hr7, hC7, hb7⟩ := copyI (HK.out.below hb6') HB0.out hkl
  have hb7' := hb6'.trans (hb7.mono hb6'.size)
  have HWAYS := hid hways; have HB4 := hid hb4; have HB4' := hid hb4'; have HB5 := hid hb5; have HBOX5 := hid hbox5; have HS5 := hid hs5; have HC6 := hid hC6; have HB6 := hid hb6; have HC7 := hid hC7; have HB7 := hid hb7; have HB7' := hid hb7'
  have hqM := below_cell hb4 _ _ hqc
  clear hways hb4 hb4' hb5 hbox5 hs5 hb5' hC6 hb6 hb6' hC7 hb7 hb7' hqc HAL
  go_wp2_with (first
    | (at_builtin; refine Lib.wpList_append_run _ rfl _ _ _ _ rfl _ _ rfl rfl _ _ (hr6 _) ?_; clear hr6)
    | (at_builtin; refine Lib.wpList_append_run _ rfl _ _ _ _ rfl _ _ rfl rfl _ _ (hr7 _) ?_; clear hr7)
    | fail)
  have hIx : IntsAt w7 px m := (HC6.out.below HB7.out).ints
  have hIy : IntsAt w7 py k := HC7.out.ints
  have hck7 := chk_any px py cx cy m k w7 hIx hIy
  rw [HCK.out] at hck7
  have hq7 : w7.cell? ⟨w.heap.size + 1, 0, none⟩ = some (.int .i64 (M : Int)) := below_cell HB7.out _ _ (below_cell HB6.out _ _ (below_cell HB5.out _ _ hqM))
  have HCK7 := hid hck7; have HIX := hid hIx; have HIY := hid hIy
  have hpx : px = none → cx = 0 := fun h => by
    have h9 := HC6.out
    rw [h] at h9
    exact h9.nil0
  have HCN7 := hid (HCNT.out M w7 px cx py cy (by omega) hIx hIy (HTAB.out.below HB7'.out))
  have HPX := hid hpx
  clear hck7 hIx hIy hpx hqM
  refine HCK7.out.mono ?_
  rintro en w7' ⟨rfl, hw7⟩
  obtain rfl : w7 = w7' := hw7.symm
  go_wp2_with fail
  refine HCN7.out.mono ?_
  rintro en w8 ⟨rfl, hb8⟩
  have HB8' := hid (HB7'.out.trans (hb8.mono HB7'.out.size))
  have HSQ8 := hid (HSEQ.out w8 px cx py cy (HIX.out.below hb8) (HIY.out.below hb8) HPX.out (HTAB.out.below HB8'.out))
  have HB8 := hid hb8
  clear hb8 HCK7 HCN7 hq7
  go_wp2_with fail
  refine HSQ8.out.mono ?_
  rintro en w9 ⟨gf, lb, B, Keep, rfl, hsq, hkp, hBr, hb9⟩
  obtain ⟨w10, hw10⟩ : ∃ w10, w9.alloc (.cells #[.func (.func gf) #[] lb] 33) = w10 := ⟨_, rfl⟩
  have hb10 : Below w9.heap.size w9 w10 := by rw [← hw10]; exact alloc_below0 _ _
  have hbox10 : w10.heap[w9.heap.size]? = some (.cells #[.func (.func gf) #[] lb] 33 (0, 0)) := by rw [← hw10]; exact World.alloc_heap_new w9 _
  have hs10 : w10.heap.size = w9.heap.size + 1 := by rw [← hw10, World.size_alloc]
  have hb9' := HB8'.out.trans (hb9.mono HB8'.out.size)
  have hb10' := hb9'.trans (hb10.mono hb9'.size)
  have hb710 : Below w7.heap.size w7 w10 := HB8.out.trans ((hb9.mono HB8.out.size).trans (hb10.mono (Nat.le_trans HB8.out.size hb9.size)))
  have hsm1 := sameI_any px a cx c m m w10 (HIX.out.below hb710) (HM.out.below hb10')
  rw [decide_eq_true rfl] at hsm1
  have hsm2 := fun W (hW : Below w10.heap.size w10 W) => sameI_any py b cy d k k W ((HIY.out.below hb710).below hW) ((HK.out.below hb10').below hW)
  simp only [decide_true] at hsm2
  have HSM1 := hid hsm1; have HSM2 := hid hsm2; have HSQ := hid hsq; have HKP := hid hkp; have HBR := hid hBr; have HB9 := hid hb9; have HB10 := hid hb10; have HBOX10 := hid hbox10; have HS10 := hid hs10; have HB710 := hid hb710; have HB10' := hid hb10'
  clear hsm1 hsm2 hsq hkp hBr hb9 hb10 hbox10 hs10 hb9' hb10' hb710 HSQ8
  go_wp2_with fail
  refine HSM1.out.mono ?_
  rintro en w11 ⟨rfl, hb11⟩
  have HB11 := hid hb11
  have HS2' := hid (HSM2.out w11 hb11)
  clear hb11 HSM1 HSM2
  go_wp2_with fail
  refine HS2'.out.mono ?_
  rintro en w12 ⟨rfl, hb12⟩
  have HB12 := hid (HB11.out.trans (hb12.mono HB11.out.size))
  clear hb12
  go_wp2_with fail
  have hrx : CRow w12 w5.heap.size px cx m := ((HC6.out.below HB7.out).below HB710.out).below HB12.out
  have hry : CRow w12 w6.heap.size py cy k := (HC7.out.below HB710.out).below HB12.out
  have hl57 : w5.heap.size ≤ w6.heap.size ∧ w6.heap.size ≤ w7.heap.size := ⟨HB6.out.size, HB7.out.size⟩
  have hxl : ∀ q, (Value.slice px m.length cx).ownBlock = some q → q < w6.heap.size := fun q hq => (own_blk HC6.out hq).2.1
  have hyl : ∀ q, (Value.slice py k.length cy).ownBlock = some q → q < w7.heap.size := fun q hq => (own_blk HC7.out hq).2.1
  have HXL := hid hxl; have HYL := hid hyl; have HRX := hid hrx; have HRY := hid hry; have HL57 := hid hl57
  clear hrx hry hxl hyl hl57
  go_loopw [17] (fun iv wr => ∃ (i : Nat) (xs : List Int), i ≤ m.length ∧ iv = .int .i64 (i : Int) ∧ xs.length = m.length ∧ CRow wr w5.heap.size px cx xs ∧ CRow wr w6.heap.size py cy k ∧ Fr (fun q => w5.heap.size ≤ q ∧ q < w7.heap.size) w12 wr) (fun iv _ => m.length - (intOf iv).toNat)
  case atStart => exact ⟨0, m, Nat.zero_le _, rfl, rfl, HRX.out, HRY.out, Fr.refl _ _⟩
  case round =>
    obtain ⟨i, xs, hi, rfl, hxs, hrx, hry, hfr⟩ := hrel
    by_cases hlt : i < m.length
    · obtain ⟨q, rfl, hqc, hqf, hqb, hqs⟩ := crow_cellI hrx (j := i) (by omega)
      have hq6 : q < w6.heap.size := HXL.out q rfl
      have hset := crow_setI hrx i 1
      have hf2 := hfr.trans ((fr_set wr q i (.int .i64 1)).mono (A' := fun q => w5.heap.size ≤ q ∧ q < w7.heap.size) fun q' hq' => by have := HL57.out; omega)
      have hry2 : CRow (wr.setCell ⟨q, i, none⟩ (.int .i64 1)) w6.heap.size py cy k := own_same hry fun b hb => set_far (by have := (own_blk hry hb).1; omega) _
      have HS := hid hset; have HF2 := hid hf2; have HRY2 := hid hry2
      clear hrx hry hfr hset hf2 hry2
      go_wp2_with fail
      go_roundw
      case rel => exact ⟨i + 1, xs.set i 1, by omega, by go_num, by rw [List.length_set]; exact hxs, HS.out, HRY2.out, HF2.out⟩
      case measure => simp [intOf]; omega
    · have e1 : i = m.length := by omega
      subst e1
      have HRY2 := hid hry; have HF := hid hfr
      obtain ⟨w13, rfl⟩ : ∃ w13, w13 = wr := ⟨_, rfl⟩
      clear hrx hry hfr HRX HRY
      go_wp2_with fail
      go_loopw [18] (fun iv wq => ∃ (i : Nat) (ys : List Int), i ≤ k.length ∧ iv = .int .i64 (i : Int) ∧ ys.length = k.length ∧ CRow wq w6.heap.size py cy ys ∧ Fr (fun q => w5.heap.size ≤ q ∧ q < w7.heap.size) w12 wq) (fun iv _ => k.length - (intOf iv).toNat)
      case atStart => exact ⟨0, k, Nat.zero_le _, rfl, rfl, HRY2.out, HF.out⟩
      case round =>
        obtain ⟨i, ys, hi2, rfl, hys, hry, hfr⟩ := hrel
        by_cases hlt2 : i < k.length
        · obtain ⟨q, rfl, hqc, hqf, hqb, hqs⟩ := crow_cellI hry (j := i) (by omega)
          have hq7 : q < w7.heap.size := HYL.out q rfl
          have hset := crow_setI hry i 1
          have hf2 := hfr.trans ((fr_set wr q i (.int .i64 1)).mono (A' := fun q => w5.heap.size ≤ q ∧ q < w7.heap.size) fun q' hq' => by have := HL57.out; omega)
          have HS := hid hset; have HF2 := hid hf2
          clear hry hfr hset hf2
          go_wp2_with fail
          go_roundw
          case rel => exact ⟨i + 1, ys.set i 1, by omega, by go_num, by rw [List.length_set]; exact hys, HS.out, HF2.out⟩
          case measure => simp [intOf]; omega
        · have e1 : i = k.length := by omega
          subst e1
          have hF := hid hfr
          have hs910 := HS10.out
          have hs8 := HB8.out.size; have hs9 := HB9.out.size; have hs12 := HB12.out.size; have hs5 := HS5.out; have hs57 := HL57.out
          have hb512 : Below w5.heap.size w5 w12 := HB6.out.trans ((HB7.out.trans ((HB710.out.trans (HB12.out.mono (by omega))).mono (by omega))).mono (by omega))
          have hb4r : Below w4.heap.size w4 wr := HB5.out.trans ((hb512.mono (by omega)).trans (hfr.below (n := w4.heap.size) (fun q hq => by omega) (by have := hb512.size; omega)))
          have hwr : wr.heap.size = wr.heap.size := rfl
          have hbr : Below w.heap.size w wr := HB4'.out.trans (hb4r.mono HB4'.out.size)
          have hlo : ∀ b, b < w5.heap.size → wr.heap[b]? = w5.heap[b]? := fun b hb => (hfr.same b (by have := hb512.size; omega) (by omega)).trans (hb512.block b hb)
          have hhi : ∀ b, w7.heap.size ≤ b → b < w10.heap.size → wr.heap[b]? = w10.heap[b]? := fun b h1 h2 => (hfr.same b (by omega) (by omega)).trans (HB12.out.block b h2)
          have hwc := HWC.out
          have hs4 := HB4.out.size
          have hwsl : WS.length = min (M + 1) L.length := by rw [← HWS.out, List.length_take, List.length_map]
          have hRD : Ready w w.heap.size w4.heap.size w9.heap.size M B Keep K T L gf lb po oc WS wr := by
            refine ⟨?_, ?_, ?_, ?_, ⟨_, HWAYS.out.below hb4r⟩, HSQ.out, ?_, ?_, hbr, rfl⟩
            · exact (hb4r.block _ (by omega)).trans ((HB4.out.block _ (by omega)).trans HQC.out)
            · exact (hb4r.block _ (by omega)).trans ((HB4.out.block _ (by omega)).trans HRC.out)
            · exact (hlo _ (by omega)).trans HBOX5.out
            · exact (hhi _ (by omega) (by omega)).trans HBOX10.out
            · refine HSQ.out.same w9 wr HKP.out fun b hb => ?_
              rcases HBR.out b hb with rfl | ⟨h1, h2⟩
              · exact (hlo 0 (by omega)).trans ((((HB7.out.trans ((HB8.out.trans (HB9.out.mono (by omega))).mono (by omega)))).block 0 (by omega)).trans (HB6.out.block 0 (by omega))).symm
              · exact (hhi b (by omega) (by omega)).trans (HB10.out.block b h2)
            · intro b hb
              have := hfr.low.size
              rcases HBR.out b hb with rfl | ⟨h1, h2⟩ <;> omega
          have hrc := rchk_any a b c d m k wr (HM.out.below hbr) (HK.out.below hbr)
          rw [HCK.out] at hrc
          have HRCK := hid hrc; have HRD := hid hRD
          have x15 : wr.cell? ⟨w9.heap.size, 0, none⟩ = some (.func (.func gf) #[] lb) := cell_box hRD.s15 rfl
          have x9 : wr.cell? ⟨w4.heap.size, 0, none⟩ = some (.slice po WS.length oc) := cell_box hRD.s9 rfl
          have x3 : wr.cell? ⟨w.heap.size + 1, 0, none⟩ = some (.int .i64 (M : Int)) := cell_box hRD.y1 rfl
          have hnl := HSQ.out.nl wr
          have hcc : (ck != ck) = false := by simp
          have hWSL : WS.length ≤ maxLen := by obtain ⟨_, h⟩ := hRD.ws; exact ways_small h
          have HY3 : Hid (w.heap.size + 3 ≤ wr.heap.size) := hid (by have := hb4r.size; omega)
          have hz : (min L.length M = WS.length ∧ WS.length ≤ M) ∨ (min L.length M = M ∧ M < WS.length) := by omega
          obtain ⟨z, hze⟩ : ∃ z, min L.length M = z := ⟨_, rfl⟩
          rw [hze] at hz ⊢
          clear hs910 hs8 hs9 hs12 hs5 hs57 hb512 hb4r hwr hbr hlo hhi hwc hs4 hwsl hRD hrc hry hfr hi2 hlt2 hze
          go_wp2_with fail
          refine HRCK.out.mono ?_
          rintro en w20 ⟨rfl, rfl⟩
          rcases hz with ⟨rfl, hz⟩ | ⟨rfl, hz⟩
          · have hnn : ((WS.length : Int) != (WS.length : Int)) = false := by simp
            have hle : (WS.length : Int) ≤ (M : Int) := by omega
            go_upto_if 119 with (fail)
            go_cut [16] from 118 to 120 (fun vv wc => vv = .bool true ∧ wc = w20)
            case first =>
              go_wp2_with fail
              go_meet
              all_goals exact ⟨rfl, rfl⟩
            case rest =>
              obtain ⟨rfl, hwe⟩ := hcut
              rw [hwe]
              clear hwe
              rename ∀ (a : Act) (w : World), Code.wp Tryd.prog (Code.seq (Code.seq (Code.region 25 _ _) _) _) _ a w → _ => hK1
              refine hK1 _ _ ?_
              exact wpIn_wide.1 (goes_turns w w20 w.heap.size w4.heap.size w9.heap.size _ K T B Keep L gf lb po oc WS _ _ ⟨rfl, rfl, rfl, rfl, rfl, rfl⟩ HRD.out HWS.out hM1 hM5 hT HY3.out)
          · have hnn : ((z : Int) != (z : Int)) = false := by simp
            have hle : ¬ (WS.length : Int) ≤ (z : Int) := by omega
            go_upto_if 119 with (fail)
            go_cut [16] from 118 to 120 (fun vv wc => vv = .bool true ∧ wc = w20)
            case first =>
              go_wp2_with fail
              go_meet
              all_goals exact ⟨rfl, rfl⟩
            case rest =>
              obtain ⟨rfl, hwe⟩ := hcut
              rw [hwe]
              clear hwe
              rename ∀ (a : Act) (w : World), Code.wp Tryd.prog (Code.seq (Code.seq (Code.region 25 _ _) _) _) _ a w → _ => hK1
              refine hK1 _ _ ?_
              exact wpIn_wide.1 (goes_turns w w20 w.heap.size w4.heap.size w9.heap.size _ K T B Keep L gf lb po oc WS _ _ ⟨rfl, rfl, rfl, rfl, rfl, rfl⟩ HRD.out HWS.out hM1 hM5 hT HY3.out)
end Go.Proofs.YtdpdpjfnanjmgaaDoor
