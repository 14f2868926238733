import Derived.Test.YtfnfbljijkjkjaaGreatKSrV
/- The walk of StepGeneral. -/
namespace Go.Proofs.YtfnfbljijkjkjaaGreat
open Go.RowKit Go.Deep

theorem rgt_facts {sg : List Sym} {P : List Eq2} (h : rgtB sg P = true) : (∀ x ∈ sg, x.kind = 1) ∧ (∀ p ∈ P.map tn2, rightB sg p.1 = true ∧ rightB sg p.2 = true) ∧ P.all (af2 sg) = true ∧ ∀ p ∈ P, okT p.1.tn ∧ okT p.2.tn := by
  unfold rgtB at h
  rw [Bool.and_eq_true, Bool.and_eq_true, List.all_eq_true, List.all_eq_true] at h
  have hk : ∀ x ∈ sg, x.kind = 1 := fun x hx => of_decide_eq_true (h.1.2 x hx)
  have hr : ∀ p ∈ P, rightB sg p.1.tn = true ∧ rightB sg p.2.tn = true := fun p hp => by
    have := h.2 p hp
    unfold r2B at this
    rw [Bool.and_eq_true] at this
    exact this
  refine ⟨hk, fun p hp => ?_, ?_, fun p hp => ?_⟩
  · obtain ⟨p', hp', rfl⟩ := List.mem_map.1 hp
    exact hr p' hp'
  · rw [List.all_eq_true]
    intro p hp
    unfold af2
    have h1 := (right_RT hk (hr p hp).1).free
    have h2 := (right_RT hk (hr p hp).2).free
    rw [Bool.and_eq_true]
    exact ⟨h1, h2⟩
  · exact ⟨right_ok (right_RT hk (hr p hp).1).right, right_ok (right_RT hk (hr p hp).2).right⟩
set_option maxRecDepth 100000 in
set_option maxHeartbeats 4000000 in
theorem gen_none (S : Option Addr) (n cap : Nat) (sg : List Sym) (P : List Eq2) (q : Option Addr) (d : Nat) (p : Option Addr) (pc : Nat) (bs : List Bn) (nP : Nat) (hnP : P.length = nP) (w : World) (hG : SigAt w S n sg) (hE : EqsAt w q P) (hP : ∀ p ∈ P, TmAt w p.1.x p.1.a p.1.c p.1.l ∧ TmAt w p.2.x p.2.a p.2.c p.2.l) (_hB : BindsAt w p bs.length bs) (hsz : sizeP P ≤ 1048576) (hsg : n ≤ 1048576) (_hbl : bs.length ≤ 1048576) (_hnd : ∀ b ∈ bs, nodesF b.2.2 ≤ 1048576) (hr : rgtB sg P = false) : Calls Tryz.prog 4 #[.agg #[.slice S n cap, .slice q nP d, .slice p bs.length pc]] w fun e w' => e = .returned (.bool true) ∧ Below w.heap.size w w' := by
  have HB0 := hid (alloc_below0 w (.cells #[.slice S n cap, .slice q nP d, .slice p bs.length pc] 50))
  have HX := hid (Box.new w 50 #[.slice S n cap, .slice q nP d, .slice p bs.length pc])
  have H5 := hid head_ok
  have H12 := hid fun (W : World) (hW : Below w.heap.size w W) => rgt_any S n cap sg P q d (.slice p bs.length pc) W (hG.below hW) (fun p hp => ⟨(hP p hp).1.below hW, (hP p hp).2.below hW⟩) (hE.keep fun g o _ hgl => hW.block g hgl) (by have := sizeP_len P; omega) hsg
  rw [hr] at H12
  rw [hnP] at H12
  clear hG hE hP hr hnP
  go_enter Tryz.func4, Tryz.ntmps4
  go_wp2_with (first
    | (go_at_call 5; refine (H5.out _).mono ?_; rintro e w1 ⟨rfl, hb1⟩; have HB1 := hid (HB0.out.trans (hb1.mono HB0.out.size)); have X1 := HX.out.below hb1; have z0 := X1.c 0; have z1 := X1.c 1; have z2 := X1.c 2; clear hb1 X1)
    | (go_at_call 12; refine (H12.out _ HB1.out).mono ?_; rintro e w2 ⟨rfl, hb2⟩; have HB2 := hid (HB1.out.trans (hb2.mono HB1.out.size)); clear hb2))
  go_ret
  exact ⟨rfl, HB2.out⟩
def solvB (sg : List Sym) (bs : List Bn) (P : List Eq2) (j : Nat) : Bool := decide ((chkB sg bs none 0).1 = 0) && (P.take j).all fun p => eqB sg bs p.1.tn p.2.tn
theorem solv_next {sg : List Sym} {bs : List Bn} {P : List Eq2} {j : Nat} (h : j < P.length) : solvB sg bs P (j + 1) = (solvB sg bs P j && eqB sg bs P[j].1.tn P[j].2.tn) := by
  unfold solvB
  rw [List.take_succ_eq_append_getElem h, List.all_append, ← Bool.and_assoc]
  simp
theorem solv_all {sg : List Sym} {bs : List Bn} {P : List Eq2} : solvB sg bs P P.length = (decide ((chkB sg bs none 0).1 = 0) && (P.map tn2).all fun p => eqB sg bs p.1 p.2) := by
  unfold solvB
  rw [List.take_length, List.all_map]
  rfl
set_option maxRecDepth 100000 in
set_option maxHeartbeats 8000000 in
theorem gen_walk (S : Option Addr) (n cap : Nat) (sg : List Sym) (P : List Eq2) (q : Option Addr) (d : Nat) (p : Option Addr) (pc : Nat) (bs : List Bn) (nP : Nat) (hnP : P.length = nP) (w : World) (hG : SigAt w S n sg) (hE : EqsAt w q P) (hP : ∀ p ∈ P, TmAt w p.1.x p.1.a p.1.c p.1.l ∧ TmAt w p.2.x p.2.a p.2.c p.2.l) (hB : BindsAt w p bs.length bs) (hsz : sizeP P ≤ 1048576) (hsg : n ≤ 1048576) (hbl : bs.length ≤ 1048576) (hnd : ∀ b ∈ bs, nodesF b.2.2 ≤ 1048576) (hr : rgtB sg P = true) : Calls Tryz.prog 4 #[.agg #[.slice S n cap, .slice q nP d, .slice p bs.length pc]] w fun e w' => e = .returned (.bool true) ∧ Below w.heap.size w w' := by
  have HB0 := hid (alloc_below0 w (.cells #[.slice S n cap, .slice q nP d, .slice p bs.length pc] 50))
  have HX := hid (Box.new w 50 #[.slice S n cap, .slice q nP d, .slice p bs.length pc])
  have H5 := hid head_ok
  have H12 := hid fun (W : World) (hW : Below w.heap.size w W) => rgt_any S n cap sg P q d (.slice p bs.length pc) W (hG.below hW) (fun p hp => ⟨(hP p hp).1.below hW, (hP p hp).2.below hW⟩) (hE.keep fun g o _ hgl => hW.block g hgl) (by have := sizeP_len P; omega) hsg
  obtain ⟨hk, hrr, haf, hok⟩ := rgt_facts hr
  have H13 := hid fun (W : World) (hW : Below w.heap.size w W) => free_any told_ok S n cap sg P q d W (hG.below hW) (fun p hp => ⟨(hP p hp).1.below hW, (hP p hp).2.below hW⟩) (hE.keep fun g o _ hgl => hW.block g hgl) hok hsz
  have H8 := hid fun (W : World) (hW : Below w.heap.size w W) => ris_any S n cap sg p pc bs W (hG.below hW) (hB.below hW) hbl hnd
  have HK := hid hk; have HRR := hid hrr; have HAF := hid haf
  have HG := hid hG; have HE := hid hE; have HP := hid hP; have HBI := hid hB; have HND := hid hnd
  rw [hr] at H12
  rw [hnP] at H12 H13
  have hnP2 : nP ≤ 1048576 := by have := sizeP_len P; omega
  have HNP := hid hnP
  clear hG hE hP hB hr hnP hk hrr haf hok hnd
  go_enter Tryz.func4, Tryz.ntmps4
  go_wp2_with (first
    | (go_at_call 5; refine (H5.out _).mono ?_; rintro e w1 ⟨rfl, hb1⟩; have HB1 := hid (HB0.out.trans (hb1.mono HB0.out.size)); have X1 := HX.out.below hb1; have HX1 := hid X1; have z0 := X1.c 0; have z1 := X1.c 1; have z2 := X1.c 2; clear hb1 X1)
    | (go_at_call 12; refine (H12.out _ HB1.out).mono ?_; rintro e w2 ⟨rfl, hb2⟩; have HB2 := hid (HB1.out.trans (hb2.mono HB1.out.size)); have X2 := HX1.out.below hb2; have HX2 := hid X2; have y0 := X2.c 0; have y1 := X2.c 1; clear hb2 X2 z0 z1 z2))
  refine (H13.out _ HB2.out).mono ?_
  rintro e w3 ⟨hb3, h3⟩
  have HB3 := hid (HB2.out.trans (hb3.mono HB2.out.size))
  have HX3 := hid (HX2.out.below hb3)
  have HW23 := hid hb3
  have t0 := HX3.out.c 0; have t1 := HX3.out.c 1; have t2 := HX3.out.c 2
  clear hb3 y0 y1
  rcases h3 with ⟨ha, _⟩ | ⟨_, f, R, hf, h4⟩
  · rw [HAF.out] at ha; cases ha
  · rcases h4 with ⟨rfl, rfl⟩ | ⟨rfl, rfl⟩ | ⟨bs', pp, cc, ms, rfl, rfl, hbi, hpm, _, hml⟩
    · have hgo := gen_ok HK.out HRR.out hf (th := bs) (ms := []) (fun h => by cases h)
      have hfin := hgo.fail rfl
      rw [← solv_all] at hfin
      have HFIN := hid hfin
      clear hf hgo hfin
      go_wp2_with (go_at_call 8; refine (H8.out _ HB3.out).mono ?_; rintro e w4 ⟨rfl, hb4⟩; have HB4 := hid (HB3.out.trans (hb4.mono HB3.out.size)); have HX4 := hid (HX3.out.below hb4); clear hb4 t0 t1 t2)
      go_loopw [8, 10] (fun sv iv wr => ∃ (j : Nat), j ≤ nP ∧ sv = .bool (solvB sg bs P j) ∧ iv = .int .i64 j ∧ Below w.heap.size w wr ∧ Box wr w.heap.size 50 #[.slice S n cap, .slice q nP d, .slice p bs.length pc]) (fun _ iv _ => nP - (intOf iv).toNat)
      case atStart => exact ⟨0, Nat.zero_le _, by unfold solvB; simp, rfl, HB4.out, HX4.out⟩
      case round =>
        obtain ⟨j, hj, rfl, rfl, hb, hx⟩ := hrel
        have HB := hid hb; have HXR := hid hx
        have x0 : wr.cell? ⟨w.heap.size, 0, none⟩ = some (.slice S n cap) := hx.c 0
        have x1 : wr.cell? ⟨w.heap.size, 1, none⟩ = some (.slice q nP d) := hx.c 1
        have x2 : wr.cell? ⟨w.heap.size, 2, none⟩ = some (.slice p bs.length pc) := hx.c 2
        by_cases hlt : j < nP
        · have hjP : j < P.length := by have := HNP.out; omega
          obtain ⟨g, o, rfl, q0, q1, q2, q3, q4, q5⟩ := (HE.out.keep (fun g o _ hgl => hb.block g hgl)) j hjP
          obtain ⟨tm1, tm2⟩ := HP.out _ (List.getElem_mem hjP)
          have hst := solv_next (sg := sg) (bs := bs) hjP
          generalize P[j] = ee at q0 q1 q2 q3 q4 q5 tm1 tm2 hst
          have HEQ := hid fun (W : World) (hW : Below wr.heap.size wr W) => equal_any S n cap sg p pc bs (ee.1.x, ee.1.l) (ee.2.x, ee.2.l) ee.1.a ee.2.a ee.1.c ee.2.c W ((HG.out.below hb).below hW) ((HBI.out.below hb).below hW) hbl HND.out ((tm1.below hb).below hW) ((tm2.below hb).below hW)
          have htt : eqB sg bs ee.1.tn ee.2.tn = eqB sg bs (ee.1.x, ee.1.l) (ee.2.x, ee.2.l) := rfl
          rw [htt] at hst
          generalize eqB sg bs (ee.1.x, ee.1.l) (ee.2.x, ee.2.l) = E1 at HEQ hst
          have HST := hid hst
          generalize solvB sg bs P j = sv at HST ⊢
          try dsimp only at HEQ
          have hls := later_some wr
          have k0 := later_cell q0; have k1 := later_cell q1; have k2 := later_cell q2; have k3 := later_cell q3; have k4 := later_cell q4; have k5 := later_cell q5
          have kx := later_cell x0; have ky := later_cell x1; have kz := later_cell x2
          have hk0 : (0 : Int) ≤ (j : Int) := by omega
          have hkn : (j : Int) < (nP : Int) := by omega
          clear hb hx hst htt
          cases sv
          all_goals
            go_upto_region 13 with fail
            refine wp_region_later (by kernel_rfl) (by kernel_rfl) ?_
            repeat (go_big_quiet_step (first | (go_at_call 10; (with_reducible refine calls_later (HEQ.out _ ?_)); exact Later.below _) | fail))
            refine wpQuiet_nil ?_
            intro _ hw'
            obtain ⟨v2, hw''⟩ := hw'
            subst hw''
            have HBT := hid (HB.out.trans (v2.below.mono HB.out.size))
            have HXT := hid (HXR.out.below v2.below)
            clear k0 k1 k2 k3 k4 k5 kx ky kz hls x0 x1 x2
            go_wp2_with fail
            go_roundw
            case rel => exact ⟨j + 1, by omega, by rw [HST.out] <;> rfl, by go_num, HBT.out, HXT.out⟩
            case measure => simp [intOf]; omega
        · have e1 : j = nP := by omega
          subst e1
          have hfin := HFIN.out
          rw [HNP.out] at hfin
          rw [hfin]
          clear hb hx hfin
          go_wp2_with fail
          go_ret
          exact ⟨rfl, HB.out⟩
    · clear hf
      go_wp2_with fail
      go_ret
      exact ⟨rfl, HB3.out⟩
    · skip
      have hml2 : ms.length ≤ 1048576 := by rw [hpm.length_eq]; exact hml
      have hgo := gen_ok HK.out HRR.out hf (th := bs) (ms := ms) (fun _ => hpm)
      have HSAME := hid (hgo.same rfl); have HOCC := hid (hgo.occ rfl)
      have hgen := hgo.gen rfl
      rw [← solv_all, HNP.out] at hgen
      have HGEN := hid hgen
      have HMS0 := hid hbi
      clear hf hgo hgen hpm hml hbi
      go_wp2_with (go_at_call 8; refine (H8.out _ HB3.out).mono ?_; rintro e w4 ⟨rfl, hb4⟩; have HLW := hid (HB3.out.trans (hb4.mono HB3.out.size)); have HX4 := hid (HX3.out.below hb4); have HMS := hid (HMS0.out.below hb4); clear hb4 t0 t1 t2)
      go_loopw [8, 10] (fun sv iv wr => ∃ (j : Nat), j ≤ nP ∧ sv = .bool (solvB sg bs P j) ∧ iv = .int .i64 j ∧ Below w4.heap.size w4 wr ∧ Box wr w.heap.size 50 #[.slice S n cap, .slice q nP d, .slice p bs.length pc]) (fun _ iv _ => nP - (intOf iv).toNat)
      case atStart => exact ⟨0, Nat.zero_le _, by unfold solvB; simp, rfl, Below.refl _ _, HX4.out⟩
      case round =>
        obtain ⟨j, hj, rfl, rfl, hb, hx⟩ := hrel
        have HB := hid hb; have HXR := hid hx
        have hbw : Below w.heap.size w wr := HLW.out.trans (hb.mono HLW.out.size)
        have x0 : wr.cell? ⟨w.heap.size, 0, none⟩ = some (.slice S n cap) := hx.c 0
        have x1 : wr.cell? ⟨w.heap.size, 1, none⟩ = some (.slice q nP d) := hx.c 1
        have x2 : wr.cell? ⟨w.heap.size, 2, none⟩ = some (.slice p bs.length pc) := hx.c 2
        by_cases hlt : j < nP
        · have hjP : j < P.length := by have := HNP.out; omega
          obtain ⟨g, o, rfl, q0, q1, q2, q3, q4, q5⟩ := (HE.out.keep (fun g o _ hgl => hbw.block g hgl)) j hjP
          obtain ⟨tm1, tm2⟩ := HP.out _ (List.getElem_mem hjP)
          have hst := solv_next (sg := sg) (bs := bs) hjP
          have hsm := HSAME.out (tn2 P[j]) (List.mem_map_of_mem (List.getElem_mem hjP))
          generalize P[j] = ee at q0 q1 q2 q3 q4 q5 tm1 tm2 hst hsm
          have hsm2 : (cmpN (pinN ms ee.1.x ee.1.l) (pinN ms ee.2.x ee.2.l) == 0) = true := by rw [beq_iff_eq]; exact hsm
          have HP1 := hid fun (W : World) (hW : Below wr.heap.size wr W) => pin_all ms hml2 (nodesF ee.1.l) ee.1.x ee.1.l ee.1.a ee.1.c pp cc W (Nat.le_refl _) ((tm1.below hbw).below hW) ((HMS.out.below hb).below hW)
          have HP2 := hid fun (W : World) (hW : Below wr.heap.size wr W) => pin_all ms hml2 (nodesF ee.2.l) ee.2.x ee.2.l ee.2.a ee.2.c pp cc W (Nat.le_refl _) ((tm2.below hbw).below hW) ((HMS.out.below hb).below hW)
          have HSM2 := hid hsm2
          generalize pinN ms ee.1.x ee.1.l = pn1 at HP1 HSM2
          generalize pinN ms ee.2.x ee.2.l = pn2 at HP2 HSM2
          obtain ⟨⟨an, asy⟩, al⟩ := pn1
          obtain ⟨⟨bn, bss⟩, bl⟩ := pn2
          try dsimp only at HP1 HP2
          have HQC := hid (And.intro q0 (And.intro q1 (And.intro q2 (And.intro q3 (And.intro q4 (And.intro q5 x1))))))
          clear hsm hsm2
          have HEQ := hid fun (W : World) (hW : Below wr.heap.size wr W) => equal_any S n cap sg p pc bs (ee.1.x, ee.1.l) (ee.2.x, ee.2.l) ee.1.a ee.2.a ee.1.c ee.2.c W ((HG.out.below hbw).below hW) ((HBI.out.below hbw).below hW) hbl HND.out ((tm1.below hbw).below hW) ((tm2.below hbw).below hW)
          have htt : eqB sg bs ee.1.tn ee.2.tn = eqB sg bs (ee.1.x, ee.1.l) (ee.2.x, ee.2.l) := rfl
          rw [htt] at hst
          generalize eqB sg bs (ee.1.x, ee.1.l) (ee.2.x, ee.2.l) = E1 at HEQ hst
          have HST := hid hst
          generalize solvB sg bs P j = sv at HST ⊢
          try dsimp only at HEQ
          have hls := later_some wr
          have k0 := later_cell q0; have k1 := later_cell q1; have k2 := later_cell q2; have k3 := later_cell q3; have k4 := later_cell q4; have k5 := later_cell q5
          have kx := later_cell x0; have ky := later_cell x1; have kz := later_cell x2
          have hk0 : (0 : Int) ≤ (j : Int) := by omega
          have hkn : (j : Int) < (nP : Int) := by omega
          clear hb hbw hx hst htt tm1 tm2 q0 q1 q2 q3 q4 q5
          cases sv
          all_goals
            go_upto_region 13 with fail
            refine wp_region_later (by kernel_rfl) (by kernel_rfl) ?_
            repeat (go_big_quiet_step (first | (go_at_call 10; (with_reducible refine calls_later (HEQ.out _ ?_)); exact Later.below _) | fail))
            refine wpQuiet_nil ?_
            intro _ hw'
            obtain ⟨v2, hw''⟩ := hw'
            subst hw''
            have HBT := hid (HB.out.trans (v2.below.mono HB.out.size))
            have HXT := hid (HXR.out.below v2.below)
            clear k0 k1 k2 k3 k4 k5 kx ky kz hls x0 x1 x2
            have hv2 := v2.below
            have u0 := below_cell hv2 _ _ HQC.out.1; have u1 := below_cell hv2 _ _ HQC.out.2.1; have u2 := below_cell hv2 _ _ HQC.out.2.2.1; have u6 := below_cell hv2 _ _ HQC.out.2.2.2.2.2.2
            have HV2 := hid hv2
            clear hv2
            go_wp2_with (first
              | (go_at_call 14; (with_reducible refine (HP2.out _ HV3.out).mono ?_); rintro e w6 ⟨a6, c6, rfl, ht6, hb6⟩; have hal6 := alloc_below0 w6 (.cells #[.string bn, .int .i64 bss, .slice a6 (lenF bl) c6] 26); have hb6' := hb6.trans (hal6.mono hb6.size); have HV4 := hid (HV3.out.trans (hb6'.mono HV3.out.size)); have Z1 := HZ1.out.below hb6'; have Z2 := Box.new w6 26 #[.string bn, .int .i64 bss, .slice a6 (lenF bl) c6]; have f0 := Z1.c 0; have f1 := Z1.c 1; have f2 := Z1.c 2; have g0 := Z2.c 0; have g1 := Z2.c 1; have g2 := Z2.c 2; have HSME := hid (rsame_any ((an, asy), al) ((bn, bss), bl) a5 a6 c5 c6 _ (HT5.out.below hb6') (ht6.own.tm.below hal6)); rw [HSM2.out] at HSME; clear ht6 hb6 hal6 hb6' Z1 Z2 r3 r4 r5 r6)
              | (go_at_call 14; (with_reducible refine (HP1.out _ HV2.out).mono ?_); rintro e w5 ⟨a5, c5, rfl, ht5, hb5⟩; have hal5 := alloc_below0 w5 (.cells #[.string an, .int .i64 asy, .slice a5 (lenF al) c5] 26); have hb5' := hb5.trans (hal5.mono hb5.size); have HV3 := hid (HV2.out.trans (hb5'.mono HV2.out.size)); have HT5 := hid (ht5.own.tm.below hal5); have HZ1 := hid (Box.new w5 26 #[.string an, .int .i64 asy, .slice a5 (lenF al) c5]); have r3 := below_cell HV3.out _ _ HQC.out.2.2.2.1; have r4 := below_cell HV3.out _ _ HQC.out.2.2.2.2.1; have r5 := below_cell HV3.out _ _ HQC.out.2.2.2.2.2.1; have r6 := below_cell HV3.out _ _ HQC.out.2.2.2.2.2.2; clear ht5 hb5 hal5 hb5' u0 u1 u2 u6)
              | (go_at_call 15; (with_reducible refine HSME.out.mono ?_); rintro e w7 ⟨rfl, hb7⟩; have HV5 := hid (HV4.out.trans (hb7.mono HV4.out.size)); clear hb7))
            go_roundw
            case rel => exact ⟨j + 1, by omega, by rw [HST.out] <;> rfl, by go_num, HB.out.trans (HV5.out.mono HB.out.size), HXR.out.below HV5.out⟩
            case measure => simp [intOf]; omega
        · have e1 : j = nP := by omega
          subst e1
          have HA := hid hb; have HXA := hid hx
          have hgen := HGEN.out
          generalize solvB sg bs P j = sv at hgen ⊢
          have HGEN2 := hid hgen
          clear hb hbw hx hgen HGEN x0 x2 HB HXR
          go_wp2_with fail
          clear x1
          go_loopw [9, 15] (fun bv iv wr => ∃ (i : Nat), i ≤ ms.length ∧ bv = .bool ((ms.take i).any fun b => bigB bs b.2) ∧ iv = .int .i64 i ∧ Below w4.heap.size w4 wr ∧ Box wr w.heap.size 50 #[.slice S n cap, .slice q j d, .slice p bs.length pc]) (fun _ iv _ => ms.length - (intOf iv).toNat)
          case atStart => exact ⟨0, Nat.zero_le _, by simp, rfl, HA.out, HXA.out⟩
          case round =>
            obtain ⟨i, hi, rfl, rfl, hb, hx⟩ := hrel
            have HBo := hid hb; have HXo := hid hx
            clear hb hx
            by_cases hlt : i < ms.length
            · have hbg : ((ms.take (i + 1)).any fun b => bigB bs b.2) = (((ms.take i).any fun b => bigB bs b.2) || bigB bs ms[i].2) := by
                rw [List.take_succ_eq_append_getElem hlt, List.any_append]; simp
              generalize ((ms.take i).any fun b => bigB bs b.2) = bg at hbg ⊢
              have HBG := hid hbg
              have hi0 : (0 : Int) ≤ (i : Int) := by omega
              have hin : (i : Int) < (ms.length : Int) := by omega
              clear hbg
              go_wp2_with fail
              go_loopw [16] (fun kv wr => ∃ (k : Nat), k ≤ ms.length ∧ kv = .int .i64 k ∧ Below w4.heap.size w4 wr ∧ Box wr w.heap.size 50 #[.slice S n cap, .slice q j d, .slice p bs.length pc]) (fun kv _ => ms.length - (intOf kv).toNat)
              case atStart => exact ⟨0, Nat.zero_le _, rfl, HBo.out, HXo.out⟩
              case round =>
                obtain ⟨k, hkl, rfl, hb, hx⟩ := hrel
                have HBk := hid hb; have HXk := hid hx
                have HMW := hid (HMS.out.below hb)
                have hbw2 : Below w.heap.size w wr := HLW.out.trans (hb.mono HLW.out.size)
                by_cases hkt : k < ms.length
                · obtain ⟨g, o, ak, ck, rfl, hbk⟩ := HMW.out.cells k hkt
                  obtain ⟨g', o', ai, ci, e', hbi⟩ := HMW.out.cells i hlt
                  cases e'
                  have hocc := HOCC.out _ (List.getElem_mem hlt) _ (List.getElem_mem hkt)
                  clear HBG
                  generalize ms[k] = y at hbk hocc
                  generalize ms[i] = z at hbi hocc
                  obtain ⟨yn, ⟨ynm, ysy⟩, yl⟩ := y
                  obtain ⟨zn, zt⟩ := z
                  dsimp only at hocc
                  have HR := hid fun (W : World) (hW : Below wr.heap.size wr W) => rhas_all (nodesF yl) zn (ynm, ysy) yl ak ck W (Nat.le_refl _) (hbk.tm.below hW)
                  generalize hasR zn (ynm, ysy) yl = hv at HR hocc
                  subst hocc
                  have k0 := later_cell hbk.name; have k1 := later_cell hbk.sym; have k2 := later_cell hbk.list; have kz := later_cell hbi.var
                  dsimp only at k0 k1 k2 kz HR
                  have hls := later_some wr
                  have hk0 : (0 : Int) ≤ (k : Int) := by omega
                  have hkn : (k : Int) < (ms.length : Int) := by omega
                  clear hb hx hbk hbi hbw2
                  go_upto_region 29 with fail
                  refine wp_region_later (by kernel_rfl) (by kernel_rfl) ?_
                  repeat (go_big_quiet_step (first | (go_at_call 16; (with_reducible refine calls_later (HR.out _ ?_)); exact Later.below _) | fail))
                  refine wpQuiet_nil ?_
                  intro _ hw'
                  obtain ⟨v2, hw''⟩ := hw'
                  subst hw''
                  have HBT := hid (HBk.out.trans (v2.below.mono HBk.out.size))
                  have HXT := hid (HXk.out.below v2.below)
                  clear k0 k1 k2 kz hls
                  go_wp2_with fail
                  go_roundw
                  case rel => exact ⟨k + 1, by omega, by go_num, HBT.out, HXT.out⟩
                  case measure => simp [intOf]; omega
                · obtain ⟨g, o, ai, ci, rfl, hbi⟩ := HMW.out.cells i hlt
                  have hgz := fun h => HGEN2.out h ms[i] (List.getElem_mem hlt)
                  have hfz := HMW.out.fits ms[i] (List.getElem_mem hlt)
                  have hbg := HBG.out
                  generalize ms[i] = z at hbi hgz hfz hbg
                  obtain ⟨zn, ⟨znm, zsy⟩, zl⟩ := z
                  dsimp only at hgz hfz hbg
                  have HBI2 := hid hbi
                  have HGW := hid fun (W : World) (hW : Below wr.heap.size wr W) => grown_big bs hbl HND.out ((znm, zsy), zl) ai ci p pc W (hbi.tm.below hW) ((HBI.out.below hbw2).below hW)
                  have HEQ := hid fun (W : World) (hW : Below wr.heap.size wr W) => equal_any S n cap sg p pc bs (vr zn) ((znm, zsy), zl) none ai 0 ci W ((HG.out.below hbw2).below hW) ((HBI.out.below hbw2).below hW) hbl HND.out (var_at hfz) (hbi.tm.below hW)
                  generalize bigB bs ((znm, zsy), zl) = bz at HGW hgz hbg
                  generalize eqB sg bs (vr zn) ((znm, zsy), zl) = E2 at HEQ hgz
                  dsimp only [vr, lenF] at HEQ HGW
                  have HGZ := hid hgz; have HBG2 := hid hbg
                  have k0 := later_cell hbi.name; have k1 := later_cell hbi.sym; have k2 := later_cell hbi.list; have kv := later_cell hbi.var
                  dsimp only at k0 k1 k2 kv
                  have x0 : wr.cell? ⟨w.heap.size, 0, none⟩ = some (.slice S n cap) := hx.c 0
                  have x2 : wr.cell? ⟨w.heap.size, 2, none⟩ = some (.slice p bs.length pc) := hx.c 2
                  have kx := later_cell x0; have kw := later_cell x2
                  have hls := later_some wr
                  clear hb hx hbi hbw2 hgz hfz hbg x0 x2
                  cases bg <;> cases bz <;> cases sv
                  all_goals
                    try (obtain rfl := HGZ.out rfl rfl)
                    go_upto_region 32 with fail
                    refine wp_region_later (by kernel_rfl) (by kernel_rfl) ?_
                    repeat (go_big_quiet_step (first | (go_at_call 11; (with_reducible refine calls_later (HGW.out _ ?_)); exact Later.below _) | fail))
                    refine wpQuiet_nil ?_
                    intro _ hw'
                    obtain ⟨v2, hw''⟩ := hw'
                    subst hw''
                    have HV2 := hid v2.below
                    have m0 := later_cell (k0 v2); have m1 := later_cell (k1 v2); have m2 := later_cell (k2 v2); have mv := later_cell (kv v2); have mx := later_cell (kx v2); have mw := later_cell (kw v2)
                    have hls2 := later_some v2.now
                    clear k0 k1 k2 kv kx kw hls
                    go_upto_region 33 with fail
                    refine wp_region_later (by kernel_rfl) (by kernel_rfl) ?_
                    repeat (go_big_quiet_step (first | (go_at_call 10; (with_reducible refine calls_later (HEQ.out _ ?_)); exact HV2.out.trans ((Later.below _).mono HV2.out.size)) | fail))
                    refine wpQuiet_nil ?_
                    intro _ hw'
                    obtain ⟨v3, hw''⟩ := hw'
                    subst hw''
                    have HV3 := hid (HV2.out.trans (v3.below.mono HV2.out.size))
                    have HBT := hid (HBk.out.trans (HV3.out.mono HBk.out.size))
                    have HXT := hid (HXk.out.below HV3.out)
                    clear m0 m1 m2 mv mx mw hls2
                    go_wp2_with fail
                    go_roundw
                    case rel => exact ⟨i + 1, by omega, by rw [HBG2.out] <;> rfl, by go_num, HBT.out, HXT.out⟩
                    case measure => simp [intOf]; omega
            · have e2 : i = ms.length := by omega
              subst e2
              go_wp2_with fail
              go_ret
              exact ⟨rfl, HLW.out.trans (HBo.out.mono HLW.out.size)⟩
end Go.Proofs.YtfnfbljijkjkjaaGreat
