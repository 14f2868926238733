import Derived.Test.YtgidgmgpgfonnabKSRSame
/- The walk of SubstNone. -/
namespace Go.Proofs.Ytgidgmgpgfonnab
open Go.RowKit Go.Deep

set_option maxRecDepth 100000 in
set_option maxHeartbeats 16000000 in
theorem substNone_walk (q : Sm) (w : World) (hq : SmAt w q) (hz : SmSz q) : Calls Try.prog 3 #[.agg q.cells] w fun e w' => e = .returned (.bool true) ∧ Below w.heap.size w w' := by
  have HBO := hid fun (W : World) (hW : Below w.heap.size w W) => both_any q W (hq.below hW) hz
  obtain ⟨S, n, cap, sg, pa, ca, ls, pb, cb, bs, ⟨x, l⟩, a, c, pn, cn, ns, f⟩ := q
  have hz1 := hz.all
  have HQ := hid hq
  dsimp only at hz1
  have hln := totB_len ls
  have I0 : Hid (InS w (Sm.cells ⟨S, n, cap, sg, pa, ca, ls, pb, cb, bs, (x, l), a, c, pn, cn, ns, f⟩) (w.alloc (.cells (Sm.cells ⟨S, n, cap, sg, pa, ca, ls, pb, cb, bs, (x, l), a, c, pn, cn, ns, f⟩) 30))) := hid (InS.new w _)
  have HSG := hid fun (W : World) (hW : Below w.heap.size w W) => (HQ.out.below hW).sig
  have HLS := hid fun (W : World) (hW : Below w.heap.size w W) => (HQ.out.below hW).ls
  have HTM := hid fun (W : World) (hW : Below w.heap.size w W) => (HQ.out.below hW).tm
  have HFT := hid HQ.out.ls.fits
  dsimp only at HSG HLS HTM HFT
  unfold Sm.cells at I0 HBO ⊢
  dsimp only at I0 HBO ⊢
  have hl1 : ls.length ≤ 524288 := by omega
  obtain ⟨bv, hbv⟩ : ∃ bv, ((checkE sg == 0) && (decide ((chkB sg ls none 0).1 = 0) && decide ((chkB sg bs none 0).1 = 0))) = bv := ⟨_, rfl⟩
  rw [hbv] at HBO
  have HBV := hid hbv
  clear hz hq hz1 hln HQ hbv
  go_enter Try.func3, Try.ntmps3
  go_wp2_with fail
  refine (shead_any _).mono ?_
  rintro e w1 ⟨rfl, hb1⟩
  have I1 := hid (I0.out.below hb1)
  clear I0 hb1
  have i0 := I1.out.box.c 0; have i1 := I1.out.box.c 1; have i2 := I1.out.box.c 2; have i3 := I1.out.box.c 3; have i4 := I1.out.box.c 4; have i5 := I1.out.box.c 5; have i6 := I1.out.box.c 6; have i7 := I1.out.box.c 7
  go_wp2_with fail
  refine (HBO.out w1 I1.out.low).mono ?_
  rintro e w2 ⟨rfl, hb2⟩
  have I2 := hid (I1.out.below hb2)
  clear I1 hb2 i0 i1 i2 i3 i4 i5 i6 i7 HBO
  have i0 := I2.out.box.c 0; have i3 := I2.out.box.c 3; have i4 := I2.out.box.c 4; have i5 := I2.out.box.c 5
  go_wp2_with fail
  refine (rright_any S n cap sg (x, l) a c w2 (HSG.out w2 I2.out.low) (HTM.out w2 I2.out.low)).mono ?_
  rintro e w3 ⟨rfl, hb3⟩
  have I3 := hid (I2.out.below hb3)
  clear I2 hb3 i0 i3 i4 i5
  cases bv with
  | false =>
    go_wp2
    go_ret
    exact ⟨rfl, I3.out.low⟩
  | true =>
  cases hrt : rightB sg (x, l) with
  | false =>
    go_wp2
    go_ret
    exact ⟨rfl, I3.out.low⟩
  | true =>
  obtain ⟨hOk, hRT⟩ := right_facts hrt
  have hbb := HBV.out
  simp only [Bool.and_eq_true, decide_eq_true_eq] at hbb
  have hSA := (chk_ok ls none 0 hbb.2.1).1
  have OK := hid hOk; have RT := hid hRT; have SA := hid hSA
  clear hrt hOk hRT hbb hSA HBV
  have hnil : ∀ W : World, BindsAt W none ([] : List Bn).length [] := fun W => ⟨rfl, by simp, fun i hi => absurd hi (by simp), fun x hx => by cases hx⟩
  have HNIL := hid hnil
  clear hnil
  have i0 := I3.out.box.c 0; have i1 := I3.out.box.c 1
  go_wp2_with fail
  refine (pcompose_any S n cap sg none 0 [] pa ca ls w3 (HSG.out w3 I3.out.low) (HNIL.out w3) (HLS.out w3 I3.out.low) (by simp) (by omega) (by simp; omega)).mono ?_
  intro e w4 hend
  obtain ⟨P1, c1, C1, ec1, rfl, hb4, hB4, _, hc1⟩ := hend.form (fun b hb => by cases hb) HFT.out (by simp; omega)
  have hC1 : ec1 = 0 ∧ C1 = ls := by
    rcases hc1 with ⟨_, b, hb, _⟩ | ⟨h1, _, ks, ms, R, rs, h2, _⟩
    · cases hb
    · exact ⟨h1, by rw [h2.eC]; exact none_left SA.out h2.eks h2.ems h2.sd h2.perm⟩
  obtain ⟨rfl, rfl⟩ := hC1
  have I4 := hid (I3.out.below hb4)
  have B4 := hid hB4
  clear hend hb4 hB4 hc1 i0 i1 I3
  have i0 := I4.out.box.c 0; have i1 := I4.out.box.c 1
  go_wp2_with fail
  refine (pcompose_any S n cap sg pa ca C1 none 0 [] w4 (HSG.out w4 I4.out.low) (HLS.out w4 I4.out.low) (HNIL.out w4) (by omega) (by simp) (by simp; omega)).mono ?_
  intro e w5 hend
  obtain ⟨P2, c2, C2, ec2, rfl, hb5, hB5, hl5, hc2⟩ := hend.form HFT.out (fun b hb => by cases hb) (by simp; omega)
  have hC2 : ec2 = 0 ∧ sameA C2 C1 = true := by
    rcases hc2 with ⟨_, b, hb, hlt⟩ | ⟨h1, _, ks, ms, R, rs, h2, _⟩
    · exfalso
      have hR := SA.out.rights b hb
      have h3 := leftN_iff (lkB []) b.2.1 b.2.2 400
      rw [putN_pin (bs := []) (by simp) _ _ hR, pinN_sub, sub_id hR] at h3
      have h4 := SA.out.few b hb
      have h5 := h3.2 (by omega)
      omega
    · refine ⟨h1, ?_⟩
      rw [h2.eC]
      exact none_right OK.out SA.out h2.len h2.can h2.eks h2.ems h2.sd h2.perm
  obtain ⟨rfl, hsame⟩ := hC2
  have HSM := hid hsame
  have I5 := hid (I4.out.below hb5)
  have B5 := hid hB5; have B4' := hid (B4.out.below hb5)
  clear hend hb5 hB5 hc2 i0 i1 I4 B4 hsame
  have i0 := I5.out.box.c 0; have i1 := I5.out.box.c 1
  go_wp2_with fail
  refine (pcompose_any S n cap sg pa ca C1 pa ca C1 w5 (HSG.out w5 I5.out.low) (HLS.out w5 I5.out.low) (HLS.out w5 I5.out.low) (by omega) (by omega) (by omega)).mono ?_
  intro e w6 hend
  obtain ⟨P3, c3, C3, ec3, rfl, hb6, hB6, hl6, hc3⟩ := hend.form HFT.out HFT.out (by omega)
  have hC3 : (ec3 = 0 ∨ ec3 = 73) ∧ (ec3 = 0 → CompOk sg C1 C1 C3) := by
    rcases hc3 with ⟨h1, _⟩ | ⟨h1, _, ks, ms, R, rs, h2, _⟩
    · exact ⟨.inr h1, fun h => by rw [h1] at h; cases h⟩
    · exact ⟨.inl h1, fun _ => by rw [h2.eC]; exact comp_ok OK.out SA.out SA.out h2.len h2.can h2.eks h2.ems h2.perm⟩
  have HC3 := hid hC3
  have I6 := hid (I5.out.below hb6)
  have B6 := hid hB6; have B5' := hid (B5.out.below hb6); have B4'' := hid (B4'.out.below hb6)
  clear hend hb6 hB6 hc3 i0 i1 I5 B5 B4' hC3
  have i1 := I6.out.box.c 1
  go_wp2_with fail
  refine (rsameb_any P1 c1 C1 pa ca C1 w6 B4''.out (HLS.out w6 I6.out.low)).mono ?_
  rintro e w7 ⟨he, hb7⟩
  rw [sameA_self] at he
  subst he
  have I7 := hid (I6.out.below hb7)
  have B6' := hid (B6.out.below hb7); have B5'' := hid (B5'.out.below hb7)
  clear hb7 i1 I6 B6 B5' B4''
  have i1 := I7.out.box.c 1
  go_wp2_with fail
  refine (rsameb_any P2 c2 C2 pa ca C1 w7 B5''.out (HLS.out w7 I7.out.low)).mono ?_
  rintro e w8 ⟨he, hb8⟩
  rw [HSM.out] at he
  subst he
  have I8 := hid (I7.out.below hb8)
  have B8 := hid (B6'.out.below hb8)
  clear hb8 i1 I7 B6' B5''
  have i0 := I8.out.box.c 0; have i1 := I8.out.box.c 1; have i3 := I8.out.box.c 3; have i4 := I8.out.box.c 4; have i5 := I8.out.box.c 5
  go_wp2_with fail
  refine (papply_any S n cap sg pa ca C1 x l a c w8 (HSG.out w8 I8.out.low) (HLS.out w8 I8.out.low) (by omega) (HTM.out w8 I8.out.low)).mono ?_
  intro e w9 hend
  obtain ⟨k1, e1, rfl, hb9, hE9, hr9⟩ := hend.form2
  have bx := alloc_below0 w9 (.cells #[.string k1.x.1, .int .i64 k1.x.2, .slice k1.a (lenF k1.l) k1.c] 27)
  have I9 := hid ((I8.out.below hb9).below bx)
  have B9 := hid ((B8.out.below hb9).below bx)
  have T1 := hid ((SepTm.tm hE9.1).below bx)
  have X1 : Hid (XBox (w9.alloc (.cells #[.string k1.x.1, .int .i64 k1.x.2, .slice k1.a (lenF k1.l) k1.c] 27)) w9.heap.size k1.x (.slice k1.a (lenF k1.l) k1.c)) := hid (World.alloc_heap_new w9 _)
  have R1 := hid (apply_right OK.out SA.out.nodup SA.out.rights RT.out hr9)
  clear hend hb9 hE9 hr9 bx i0 i1 i3 i4 i5 I8 B8
  rcases HC3.out.1 with rfl | rfl
  case inr =>
    go_wp2_with fail
    go_ret
    exact ⟨rfl, I9.out.low⟩
  have hCk := HC3.out.2 rfl
  have OKC := hid hCk
  clear hCk HC3
  rcases R1.out with ⟨_, rfl⟩ | ⟨hs1, rfl, ht1⟩
  · go_wp2_with fail
    go_ret
    exact ⟨rfl, I9.out.low⟩
  have HT1 := hid ht1
  clear hs1 ht1 R1
  have i0 := I9.out.box.c 0; have i1 := I9.out.box.c 1
  have x0 := X1.out.c0; have x1 := X1.out.c1; have x2 := X1.out.c2
  go_wp2_with fail
  clear i0 i1 x0 x1 x2
  generalize w9.alloc (.cells #[.string k1.x.1, .int .i64 k1.x.2, .slice k1.a (lenF k1.l) k1.c] 27) = W9 at I9 B9 T1 X1 ⊢
  generalize w9.heap.size = g1 at X1 ⊢
  refine (papply_any S n cap sg pa ca C1 k1.x k1.l k1.a k1.c W9 (HSG.out W9 I9.out.low) (HLS.out W9 I9.out.low) (by omega) T1.out).mono ?_
  intro e w10 hend
  obtain ⟨k2, e2, rfl, hb10, hE10, hr10⟩ := hend.form2
  have bx := alloc_below0 w10 (.cells #[.string k2.x.1, .int .i64 k2.x.2, .slice k2.a (lenF k2.l) k2.c] 27)
  have I10 := hid ((I9.out.below hb10).below bx)
  have B10 := hid ((B9.out.below hb10).below bx)
  have T2 := hid ((SepTm.tm hE10.1).below bx)
  have X2 : Hid (XBox (w10.alloc (.cells #[.string k2.x.1, .int .i64 k2.x.2, .slice k2.a (lenF k2.l) k2.c] 27)) w10.heap.size k2.x (.slice k2.a (lenF k2.l) k2.c)) := hid (World.alloc_heap_new w10 _)
  have R2 := hid hr10
  clear hend hb10 hE10 hr10 bx I9 B9 T1 X1
  have i0 := I10.out.box.c 0; have i3 := I10.out.box.c 3; have i4 := I10.out.box.c 4; have i5 := I10.out.box.c 5
  go_wp2_with fail
  clear i0 i3 i4 i5
  generalize w10.alloc (.cells #[.string k2.x.1, .int .i64 k2.x.2, .slice k2.a (lenF k2.l) k2.c] 27) = W10 at I10 B10 T2 X2 ⊢
  generalize w10.heap.size = g2 at X2 ⊢
  refine (papply_any S n cap sg P3 c3 C3 x l a c W10 (HSG.out W10 I10.out.low) B10.out hl6 (HTM.out W10 I10.out.low)).mono ?_
  intro e w11 hend
  obtain ⟨k3, e3, rfl, hb11, hE11, hr11⟩ := hend.form2
  have bx := alloc_below0 w11 (.cells #[.string k3.x.1, .int .i64 k3.x.2, .slice k3.a (lenF k3.l) k3.c] 27)
  have I11 := hid ((I10.out.below hb11).below bx)
  have T3 := hid ((SepTm.tm hE11.1).below bx)
  have X3 : Hid (XBox (w11.alloc (.cells #[.string k3.x.1, .int .i64 k3.x.2, .slice k3.a (lenF k3.l) k3.c] 27)) w11.heap.size k3.x (.slice k3.a (lenF k3.l) k3.c)) := hid (World.alloc_heap_new w11 _)
  have T2' := hid ((T2.out.below hb11).below bx); have X2' := hid ((X2.out.below hb11).below bx)
  have R3 := hid hr11
  clear hend hb11 hE11 hr11 bx I10 B10 T2 X2
  by_cases he2 : e2 = 0
  · by_cases he3 : e3 = 0
    · have hRx : RightT (sgOf sg) (arAt sg) (k1.x, k1.l) := by
        have : (k1.x, k1.l) = canonT (sgOf sg) (subN (getN C1) (x, l)) := HT1.out
        rw [this]
        exact right_of_can (canonT_can OK.out (subG_right (getN_rightG SA.out.rights) RT.out))
      have h2 : k2.tn = canonT (sgOf sg) (subN (getN C1) (canonT (sgOf sg) (subN (getN C1) (x, l)))) := by
        rcases apply_right OK.out SA.out.nodup SA.out.rights hRx R2.out with ⟨_, h⟩ | ⟨_, _, h⟩
        · rw [he2] at h; cases h
        · rw [h]; rw [show (k1.x, k1.l) = canonT (sgOf sg) (subN (getN C1) (x, l)) from HT1.out]
      have h3 : k3.tn = canonT (sgOf sg) (subN (getN C3) (x, l)) := by
        rcases apply_right OK.out OKC.out.nodup OKC.out.right RT.out R3.out with ⟨_, h⟩ | ⟨_, _, h⟩
        · rw [he3] at h; cases h
        · exact h
      have h4 : k2.tn = k3.tn := by rw [h2, h3]; exact sub_comp OK.out (getN_rightG SA.out.rights) (getN_rightG SA.out.rights) OKC.out.get RT.out
      have H4 := hid h4
      have HX := hid (rexact_any k2.tn k3.tn k2.a k3.a k2.c k3.c _ T2'.out T3.out)
      have y0 := X2'.out.c0; have y1 := X2'.out.c1; have y2 := X2'.out.c2
      have z0 := X3.out.c0; have z1 := X3.out.c1; have z2 := X3.out.c2
      subst he2 he3
      clear h2 h3 h4 hRx
      go_wp2_with fail
      refine HX.out.mono ?_
      rintro e w12 ⟨he, hb12⟩
      have he' : e = .returned (.bool true) := by rw [he, H4.out, exN_self]
      subst he'
      have I12 := hid (I11.out.below hb12)
      clear he hb12 y0 y1 y2 z0 z1 z2
      go_wp2_with fail
      go_ret
      exact ⟨rfl, I12.out.low⟩
    · have he5 : e3 = 73 := by
        rcases R3.out with ⟨_, _, h⟩ | ⟨_, h, _⟩
        · exact h
        · exact absurd h he3
      subst he2 he5
      clear he3
      go_wp2_with fail
      go_ret
      exact ⟨rfl, I11.out.low⟩
  · have he5 : e2 = 73 := by
      rcases R2.out with ⟨_, _, h⟩ | ⟨_, h, _⟩
      · exact h
      · exact absurd h he2
    subst he5
    clear he2
    by_cases he3 : e3 = 0
    · subst he3
      go_wp2_with fail
      go_ret
      exact ⟨rfl, I11.out.low⟩
    · have he6 : e3 = 73 := by
        rcases R3.out with ⟨_, _, h⟩ | ⟨_, h, _⟩
        · exact h
        · exact absurd h he3
      subst he6
      clear he3
      go_wp2_with fail
      go_ret
      exact ⟨rfl, I11.out.low⟩
end Go.Proofs.Ytgidgmgpgfonnab
