import Derived.Test.YtgidgmgpgfonnaaKSInS
/- The walk of SubstApplies. -/
namespace Go.Proofs.Ytgidgmgpgfonnaa
open Go.RowKit Go.Deep

def zeroN : Tn := ((⟨#[]⟩, 0), .nil)
theorem ApplyEnd.form2 {sg : List Sym} {lk : ByteArray → Option Tn} {x : ByteArray × Int} {l : Fo} {w : World} {e : Ending} {w' : World} (h : ApplyEnd sg lk x l w e w') : ∃ (k : Kv) (er : Int), e = .returned (.tuple #[.agg #[.string k.x.1, .int .i64 k.x.2, .slice k.a (lenF k.l) k.c], .int .i64 er]) ∧ Below w.heap.size w w' ∧ LoosE w' (fun q => w.heap.size ≤ q) k ∧
    ((leftN lk x l 400 < 0 ∧ k.tn = zeroN ∧ er = 73) ∨ (0 ≤ leftN lk x l 400 ∧ er = 0 ∧ CanR sg (putN lk x l) k.tn)) := by
  rcases h with ⟨hb, ⟨h1, rfl⟩ | ⟨h1, k, rfl, h2, h3⟩⟩
  · exact ⟨⟨(noB, 0), .nil, none, 0⟩, 73, rfl, hb, loosE_const _ _ 0, .inl ⟨h1, rfl, rfl⟩⟩
  · exact ⟨k, 0, rfl, hb, h3, .inr ⟨h1, rfl, h2⟩⟩
theorem RApplyEnd.form2 {sg : List Sym} {bs : List Bn} {x : ByteArray × Int} {l : Fo} {w : World} {e : Ending} {w' : World} (h : RApplyEnd sg bs x l w e w') : ∃ (r : Tn) (a' : Option Addr) (c' : Nat) (er : Int), e = .returned (.tuple #[.agg #[.string r.1.1, .int .i64 r.1.2, .slice a' (lenF r.2) c'], .int .i64 er]) ∧ Below w.heap.size w w' ∧ TmAt w' r.1 a' c' r.2 ∧
    ((growN bs x l 400 < 0 ∧ r = zeroN ∧ er = 73) ∨ (0 ≤ growN bs x l 400 ∧ er = 0 ∧ r = canonT (sgOf sg) (pinN bs x l))) := by
  rcases h with ⟨hb, ⟨h1, rfl⟩ | ⟨h1, r, a', c', h2, rfl, h3⟩⟩
  · exact ⟨zeroN, none, 0, 73, rfl, hb, ⟨⟨by decide, by decide, by decide, by decide⟩, .inl rfl⟩, .inl ⟨h1, rfl, rfl⟩⟩
  · exact ⟨r, a', c', 0, rfl, hb, h3.tm, .inr ⟨h1, rfl, h2⟩⟩
/-- The program's Apply and the document's say the same. -/
theorem apply_same {sg : List Sym} {bs : List Bn} {x : ByteArray × Int} {l : Fo} {t r : Tn} {e f : Int} (hs : SubOk sg bs) (hr : rightB sg (x, l) = true) (h : (leftN (lkB bs) x l 400 < 0 ∧ t = zeroN ∧ e = 73) ∨ (0 ≤ leftN (lkB bs) x l 400 ∧ e = 0 ∧ CanR sg (putN (lkB bs) x l) t)) (k : (growN bs x l 400 < 0 ∧ r = zeroN ∧ f = 73) ∨ (0 ≤ growN bs x l 400 ∧ f = 0 ∧ r = canonT (sgOf sg) (pinN bs x l))) : t = r ∧ e = f := by
  obtain ⟨hok, hrt⟩ := right_facts hr
  have hfa := fits_alike hs.nodup x l hrt 400
  rcases h with ⟨h1, rfl, rfl⟩ | ⟨h1, rfl, h2⟩
  · rcases k with ⟨k1, rfl, rfl⟩ | ⟨k1, rfl, k2⟩
    · exact ⟨rfl, rfl⟩
    · exact absurd (hfa.2 k1) (by omega)
  · rcases k with ⟨k1, rfl, rfl⟩ | ⟨k1, rfl, k2⟩
    · exact absurd (hfa.1 h1) (by omega)
    · have e1 := putN_pin hs.nodup x l hrt
      rw [e1] at h2
      exact ⟨(h2.2 hok (pinN_right hs.rights x l hrt)).trans k2.symm, rfl⟩
set_option maxRecDepth 100000 in
set_option maxHeartbeats 8000000 in
theorem substApplies_walk (q : Sm) (w : World) (hq : SmAt w q) (hz : SmSz q) : Calls Try.prog 3 #[.agg q.cells] w fun e w' => e = .returned (.bool true) ∧ Below w.heap.size w w' := by
  obtain ⟨S, n, cap, sg, pa, ca, ls, pb, cb, bs, ⟨x, l⟩, a, c, pn, cn, ns, f⟩ := q
  have hz1 := hz.all
  have HQ := hid hq
  dsimp only at hz1
  have hln := totB_len ls
  have hnd : ∀ b ∈ ls, nodesF b.2.2 ≤ 1048576 := fun b hb => by have := totB_mem hb; omega
  have I0 : Hid (InS w (Sm.cells ⟨S, n, cap, sg, pa, ca, ls, pb, cb, bs, (x, l), a, c, pn, cn, ns, f⟩) (w.alloc (.cells (Sm.cells ⟨S, n, cap, sg, pa, ca, ls, pb, cb, bs, (x, l), a, c, pn, cn, ns, f⟩) 30))) := hid (InS.new w _)
  have HSG := hid fun (W : World) (hW : Below w.heap.size w W) => (HQ.out.below hW).sig
  have HLS := hid fun (W : World) (hW : Below w.heap.size w W) => (HQ.out.below hW).ls
  have HTM := hid fun (W : World) (hW : Below w.heap.size w W) => (HQ.out.below hW).tm
  dsimp only at HSG HLS HTM
  unfold Sm.cells at I0 ⊢
  dsimp only at I0 ⊢
  have hl1 : ls.length ≤ 1048575 := by omega
  have HZ := hid hnd
  clear hz hq hnd hz1 hln HQ
  go_enter Try.func3, Try.ntmps3
  go_wp2_with fail
  refine (shead_any _).mono ?_
  rintro e w1 ⟨rfl, hb1⟩
  have I1 := hid (I0.out.below hb1)
  clear I0 hb1
  have i1 := I1.out.box.c 1
  go_wp2_with fail
  refine (lentb_any pa ca ls w1 (HLS.out w1 I1.out.low) hl1).mono ?_
  rintro e w2 ⟨g2, cap2, rfl, hL2, _, hb2⟩
  have I2 := hid (I1.out.below hb2)
  have L2 := hid hL2
  clear I1 hb2 hL2 i1
  have i3 := I2.out.box.c 3; have i4 := I2.out.box.c 4; have i5 := I2.out.box.c 5
  go_wp2_with fail
  refine (lent_any x l a c w2 (HTM.out w2 I2.out.low)).mono ?_
  rintro e w3 ⟨a3, c3, rfl, ho3, hb3⟩
  have bx := alloc_below0 w3 (.cells #[.string x.1, .int .i64 x.2, .slice a3 (lenF l) c3] 27)
  have I3 := hid ((I2.out.below hb3).below bx)
  have L3 := hid ((L2.out.below hb3).below bx)
  have T3 := hid (ho3.below bx)
  have X3 : Hid (XBox (w3.alloc (.cells #[.string x.1, .int .i64 x.2, .slice a3 (lenF l) c3] 27)) w3.heap.size x (.slice a3 (lenF l) c3)) := hid (World.alloc_heap_new w3 _)
  clear I2 L2 hb3 ho3 i3 i4 i5 bx
  have i0 := I3.out.box.c 0
  have x0 := X3.out.c0; have x1 := X3.out.c1; have x2 := X3.out.c2
  go_wp2_with fail
  clear i0 x0 x1 x2
  generalize w3.alloc (.cells #[.string x.1, .int .i64 x.2, .slice a3 (lenF l) c3] 27) = W3 at I3 L3 T3 X3 ⊢
  generalize w3.heap.size = bt at X3 ⊢
  refine (papply_any S n cap sg (some ⟨g2, 0, none⟩) cap2 ls x l a3 c3 W3 (HSG.out W3 I3.out.low) L3.out.binds (by omega) T3.out.tm).mono ?_
  intro e w4 hend
  obtain ⟨k, er, rfl, hb4, hE4, hr4⟩ := hend.form2
  have bx := alloc_below0 w4 (.cells #[.string k.x.1, .int .i64 k.x.2, .slice k.a (lenF k.l) k.c] 27)
  have B4 := hid (hb4.trans (bx.mono hb4.size))
  have X4 : Hid (XBox (w4.alloc (.cells #[.string k.x.1, .int .i64 k.x.2, .slice k.a (lenF k.l) k.c] 27)) w4.heap.size k.x (.slice k.a (lenF k.l) k.c)) := hid (World.alloc_heap_new w4 _)
  have C4 : Hid (SepTm (w4.alloc (.cells #[.string k.x.1, .int .i64 k.x.2, .slice k.a (lenF k.l) k.c] 27)) (fun q => W3.heap.size ≤ q ∧ q < w4.heap.size) k.x k.a k.c k.l) := hid (SepTm.keep (fun q _ hq => Below.heap_alloc _ _ _ hq) (SepTm.within hE4.1))
  have HR4 := hid hr4
  clear hb4 hE4 hr4 hend bx
  have i1 := (I3.out.below B4.out).box.c 1
  go_wp2_with fail
  clear i1
  generalize w4.alloc (.cells #[.string k.x.1, .int .i64 k.x.2, .slice k.a (lenF k.l) k.c] 27) = W4 at B4 X4 C4 ⊢
  generalize w4.heap.size = by4 at X4 C4 ⊢
  refine (keptb_any g2 cap2 pa ca ls W4 (L3.out.below B4.out) (HLS.out W4 (I3.out.below B4.out).low) (by omega)).mono ?_
  rintro e w5 ⟨rfl, hb5⟩
  have B5 := hid hb5
  have D5 := hid (B4.out.trans (hb5.mono B4.out.size))
  clear hb5
  have x0 := (X3.out.below D5.out).c0; have x1 := (X3.out.below D5.out).c1; have x2 := (X3.out.below D5.out).c2
  have i3 := (I3.out.below D5.out).box.c 3; have i4 := (I3.out.below D5.out).box.c 4; have i5 := (I3.out.below D5.out).box.c 5
  go_wp2_with fail
  refine (kept_any _ x l a3 a c3 c w5 (T3.out.below D5.out) (HTM.out w5 (I3.out.below D5.out).low)).mono ?_
  rintro e w6 ⟨rfl, hb6⟩
  have B6 := hid (B5.out.trans (hb6.mono B5.out.size))
  have D6 := hid (D5.out.trans (hb6.mono D5.out.size))
  clear hb6 x0 x1 x2 i3 i4 i5 B5 D5
  have i0 := (I3.out.below D6.out).box.c 0; have i3 := (I3.out.below D6.out).box.c 3; have i4 := (I3.out.below D6.out).box.c 4; have i5 := (I3.out.below D6.out).box.c 5
  go_wp2_with fail
  refine (rright_any S n cap sg (x, l) a c w6 (HSG.out w6 (I3.out.below D6.out).low) (HTM.out w6 (I3.out.below D6.out).low)).mono ?_
  rintro e w7 ⟨rfl, hb7⟩
  have B7 := hid (B6.out.trans (hb7.mono B6.out.size))
  have D7 := hid (D6.out.trans (hb7.mono D6.out.size))
  clear hb7 i0 i3 i4 i5 B6 D6
  cases hrt : rightB sg (x, l)
  · go_wp2
    go_ret
    exact ⟨rfl, (I3.out.below D7.out).low⟩
  have HRT := hid hrt
  clear hrt
  have i0 := (I3.out.below D7.out).box.c 0; have i1 := (I3.out.below D7.out).box.c 1
  go_wp2_with fail
  refine (ris_any S n cap sg pa ca ls w7 (HSG.out w7 (I3.out.below D7.out).low) (HLS.out w7 (I3.out.below D7.out).low) (by omega) HZ.out).mono ?_
  rintro e w8 ⟨rfl, hb8⟩
  have B8 := hid (B7.out.trans (hb8.mono B7.out.size))
  have D8 := hid (D7.out.trans (hb8.mono D7.out.size))
  clear hb8 i0 i1 B7 D7
  by_cases his : (chkB sg ls none 0).1 = 0
  · rw [decide_eq_true his]
    have HOK := hid (chk_ok ls none 0 his).1
    clear his
    have i0 := (I3.out.below D8.out).box.c 0; have i1 := (I3.out.below D8.out).box.c 1
    have i3 := (I3.out.below D8.out).box.c 3; have i4 := (I3.out.below D8.out).box.c 4; have i5 := (I3.out.below D8.out).box.c 5
    go_wp2_with fail
    refine (rapply_any S n cap sg pa ca ls x l a c w8 (HSG.out w8 (I3.out.below D8.out).low) (HLS.out w8 (I3.out.below D8.out).low) (by omega) HZ.out (HTM.out w8 (I3.out.below D8.out).low)).mono ?_
    intro e w9 hend
    obtain ⟨r, a9, c9, fr, rfl, hb9, hT9, hr9⟩ := hend.form2
    obtain ⟨hkr, rfl⟩ := apply_same HOK.out HRT.out HR4.out hr9
    have bx := alloc_below0 w9 (.cells #[.string r.1.1, .int .i64 r.1.2, .slice a9 (lenF r.2) c9] 27)
    have B9 := hid (B8.out.trans ((hb9.trans (bx.mono hb9.size)).mono B8.out.size))
    have D9 := hid (D8.out.trans ((hb9.trans (bx.mono hb9.size)).mono D8.out.size))
    have T9 := hid (hT9.below bx)
    have X9 : Hid (XBox (w9.alloc (.cells #[.string r.1.1, .int .i64 r.1.2, .slice a9 (lenF r.2) c9] 27)) w9.heap.size r.1 (.slice a9 (lenF r.2) c9)) := hid (World.alloc_heap_new w9 _)
    have HKR := hid hkr
    clear hkr hr9 hend hb9 hT9 bx i0 i1 i3 i4 i5 B8 D8 HR4
    have y0 := (X4.out.below B9.out).c0; have y1 := (X4.out.below B9.out).c1; have y2 := (X4.out.below B9.out).c2
    have z0 := X9.out.c0; have z1 := X9.out.c1; have z2 := X9.out.c2
    go_wp2_with fail
    clear y0 y1 y2 z0 z1 z2
    generalize w9.alloc (.cells #[.string r.1.1, .int .i64 r.1.2, .slice a9 (lenF r.2) c9] 27) = W9 at B9 D9 T9 X9 ⊢
    refine (rexact_any k.tn r k.a a9 k.c c9 W9 (SepTm.tm (C4.out.below B9.out)) T9.out).mono ?_
    rintro e w10 ⟨he, hb10⟩
    have he' : e = .returned (.bool true) := by rw [he, HKR.out, exN_self]
    subst he'
    have B10 := hid (B9.out.trans (hb10.mono B9.out.size))
    have D10 := hid (D9.out.trans (hb10.mono D9.out.size))
    clear he hb10 B9 D9 T9 X9
    have y0 := (X4.out.below B10.out).c0; have y1 := (X4.out.below B10.out).c1; have y2 := (X4.out.below B10.out).c2
    go_wp2_with fail
    refine (spoil_any _ k.x k.l k.a k.c w10 (C4.out.below B10.out)).mono ?_
    rintro e w11 ⟨⟨v, rfl⟩, hf⟩
    have D11 : Hid (Below W3.heap.size W3 w11) := hid (D10.out.trans (hf.below (fun _ h => h.1) D10.out.size))
    clear hf y0 y1 y2 B10 D10
    have i1 := (I3.out.below D11.out).box.c 1
    go_wp2_with fail
    refine (keptb_any g2 cap2 pa ca ls w11 (L3.out.below D11.out) (HLS.out w11 (I3.out.below D11.out).low) (by omega)).mono ?_
    rintro e w12 ⟨rfl, hb12⟩
    have I12 := hid ((I3.out.below D11.out).below hb12)
    clear hb12 i1
    go_wp2
    go_ret
    exact ⟨rfl, I12.out.low⟩
  · rw [decide_eq_false his]
    clear his
    go_wp2
    go_ret
    exact ⟨rfl, (I3.out.below D8.out).low⟩
end Go.Proofs.Ytgidgmgpgfonnaa
