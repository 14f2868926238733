import Derived.Test.YtgidgmgpgfonnaaGreatKSSpoil
/- The walk of SubstComposes. -/
namespace Go.Proofs.YtgidgmgpgfonnaaGreat
open Go.RowKit Go.Deep

/-- What the program's Compose leaves, with the place of its list in both cases. -/
def CompF (sg : List Sym) (as' bs : List Bn) (B : Nat) (W : World) (P : Option Addr) (cc : Nat) (C : List Bn) (ec : Int) : Prop :=
  BindsAt W P C.length C ∧ (∃ R, SepB B W (.slice P C.length cc) R) ∧
    ((ec = 73 ∧ C = [] ∧ ∃ b ∈ as', leftN (lkB bs) b.2.1 b.2.2 400 < 0) ∨ (ec = 0 ∧ (∀ b ∈ as', 0 ≤ leftN (lkB bs) b.2.1 b.2.2 400) ∧ ∃ ks ms R rs, CompR sg as' bs C ks ms R rs))
theorem CompEnd.formF {sg : List Sym} {as' bs : List Bn} {w : World} {e : Ending} {w' : World} (h : CompEnd sg as' bs w e w') (hfa : ∀ b ∈ as', b.1.size ≤ maxLen) (hfb : ∀ b ∈ bs, b.1.size ≤ maxLen) (hl : as'.length + bs.length ≤ 1048576) :
    ∃ (P : Option Addr) (cc : Nat) (C : List Bn) (ec : Int), e = .returned (.tuple #[.slice P C.length cc, .int .i64 ec]) ∧ Below w.heap.size w w' ∧ CompF sg as' bs w.heap.size w' P cc C ec := by
  have h' := h
  rcases h with ⟨hb, ⟨rfl, h1⟩ | ⟨h0, _⟩⟩
  · exact ⟨none, 0, [], 73, rfl, hb, ⟨rfl, by simp, fun i hi => absurd hi (by simp), fun x hx => by cases hx⟩, ⟨[], SepB.nil _ _⟩, .inl ⟨rfl, rfl, h1⟩⟩
  · obtain ⟨P, cc, C, ec, rfl, _, hB, _, hc⟩ := h'.form hfa hfb hl
    refine ⟨P, cc, C, ec, rfl, hb, hB, ?_⟩
    rcases hc with ⟨_, b, hb1, hb2⟩ | ⟨h2, h3, ks, ms, R, rs, h4, v, rfl, h5⟩
    · have := h0 b hb1
      omega
    · exact ⟨⟨R, h5⟩, .inr ⟨h2, h3, ks, ms, R, rs, h4⟩⟩
theorem CompF.below {sg : List Sym} {as' bs : List Bn} {B : Nat} {W W' : World} {P : Option Addr} {cc : Nat} {C : List Bn} {ec : Int} (h : CompF sg as' bs B W P cc C ec) (hb : Below W.heap.size W W') : CompF sg as' bs B W' P cc C ec :=
  ⟨h.1.below hb, let ⟨R, hR⟩ := h.2.1; ⟨R, hR.below hb⟩, h.2.2⟩
/-- Both answers are the same list with the same error. -/
theorem comp_meet {sg : List Sym} {as' bs : List Bn} {B : Nat} {W : World} {P : Option Addr} {cc : Nat} {C : List Bn} {ec : Int} {w : World} {e : Ending} {w' : World} (hOk : (sgOf sg).Ok (arAt sg)) (hA : SubOk sg as') (hB : SubOk sg bs) (h : CompF sg as' bs B W P cc C ec) (hr : RCompEnd sg as' bs w e w') :
    ∃ Pd cd, e = .returned (.tuple #[.slice Pd C.length cd, .int .i64 ec]) ∧ BindsAt w' Pd C.length C := by
  have al : ∀ b ∈ as', (0 ≤ leftN (lkB bs) b.2.1 b.2.2 400 ↔ 0 ≤ growN bs b.2.1 b.2.2 400) := fun b hb => fits_alike hB.nodup b.2.1 b.2.2 (hA.rights b hb) 400
  rcases hr with ⟨_, ⟨rfl, b, hb1, hb2⟩ | ⟨h0, v, ks', ms', D, rs', rfl, h1, h2, h3, h4, h5, h6, h7⟩⟩
  · rcases h.2.2 with ⟨rfl, rfl, _⟩ | ⟨_, h3, _⟩
    · exact ⟨none, 0, rfl, rfl, by simp, fun i hi => absurd hi (by simp), fun x hx => by cases hx⟩
    · have := (al b hb1).1 (h3 b hb1)
      omega
  · rcases h.2.2 with ⟨_, _, b, hb1, hb2⟩ | ⟨rfl, _, ks, ms, R, rs, hc⟩
    · have := (al b hb1).2 (h0 b hb1)
      omega
    · have e1 := comp_same hOk hA hB hc h1 h2 h3 h4 h5 h6
      obtain ⟨Pd, cd, rfl, hb⟩ := h7.at_ e1.symm h.1.fits
      exact ⟨Pd, cd, rfl, hb⟩

set_option maxRecDepth 100000 in
set_option maxHeartbeats 16000000 in
theorem substComposes_walk (q : Sm) (w : World) (hq : SmAt w q) (hz : SmSz q) : Calls Tryz.prog 4 #[.agg q.cells] w fun e w' => e = .returned (.bool true) ∧ Below w.heap.size w w' := by
  have HBO := hid fun (W : World) (hW : Below w.heap.size w W) => both_any q W (hq.below hW) hz
  obtain ⟨S, n, cap, sg, pa, ca, ls, pb, cb, bs, ⟨x, l⟩, a, c, pn, cn, ns, f⟩ := q
  have hz1 := hz.all
  have HQ := hid hq
  dsimp only at hz1
  have hln := totB_len ls
  have hlb := totB_len bs
  have I0 : Hid (InS w (Sm.cells ⟨S, n, cap, sg, pa, ca, ls, pb, cb, bs, (x, l), a, c, pn, cn, ns, f⟩) (w.alloc (.cells (Sm.cells ⟨S, n, cap, sg, pa, ca, ls, pb, cb, bs, (x, l), a, c, pn, cn, ns, f⟩) 30))) := hid (InS.new w _)
  have HSG := hid fun (W : World) (hW : Below w.heap.size w W) => (HQ.out.below hW).sig
  have HLS := hid fun (W : World) (hW : Below w.heap.size w W) => (HQ.out.below hW).ls
  have HBS := hid fun (W : World) (hW : Below w.heap.size w W) => (HQ.out.below hW).bs
  dsimp only at HSG HLS HBS
  unfold Sm.cells at I0 HBO ⊢
  dsimp only at I0 HBO ⊢
  have HL : Hid (ls.length ≤ 1000000 ∧ bs.length ≤ 1000000 ∧ ls.length + bs.length ≤ 1048576) := hid ⟨by omega, by omega, by omega⟩
  have HN : Hid (∀ b ∈ bs, nodesF b.2.2 ≤ 1048576) := hid fun b hb => by have := totB_mem hb; omega
  obtain ⟨bv, hbv⟩ : ∃ bv, ((checkE sg == 0) && (decide ((chkB sg ls none 0).1 = 0) && decide ((chkB sg bs none 0).1 = 0))) = bv := ⟨_, rfl⟩
  rw [hbv] at HBO
  have HBV := hid hbv
  clear hz hq hz1 hln hlb HQ hbv
  go_enter Tryz.func4, Tryz.ntmps4
  go_wp2_with fail
  refine (shead_any _).mono ?_
  rintro e w1 ⟨rfl, hb1⟩
  have I1 := hid (I0.out.below hb1)
  clear I0 hb1
  have i1 := I1.out.box.c 1
  go_wp2_with fail
  refine (lentb_any pa ca ls w1 (HLS.out w1 I1.out.low) (by have := HL.out.1; omega)).mono ?_
  rintro e w2 ⟨g2, cap2, rfl, hL2, _, hb2⟩
  have I2 := hid (I1.out.below hb2)
  have L2 := hid hL2
  clear I1 hb2 hL2 i1
  have i2 := I2.out.box.c 2
  go_wp2_with fail
  refine (lentb_any pb cb bs w2 (HBS.out w2 I2.out.low) (by have := HL.out.2.1; omega)).mono ?_
  rintro e w3 ⟨g3, cap3, rfl, hL3, _, hb3⟩
  have I3 := hid (I2.out.below hb3)
  have LA := hid (L2.out.below hb3)
  have LB := hid hL3
  clear I2 hb3 hL3 i2 L2
  have i0 := I3.out.box.c 0
  go_wp2_with fail
  refine (pcompose_any S n cap sg (some ⟨g2, 0, none⟩) cap2 ls (some ⟨g3, 0, none⟩) cap3 bs w3 (HSG.out w3 I3.out.low) LA.out.binds LB.out.binds HL.out.1 HL.out.2.1 HL.out.2.2).mono ?_
  intro e w4 hend
  obtain ⟨P, cc, C, ec, rfl, hb4, hC4⟩ := hend.formF LA.out.binds.fits LB.out.binds.fits HL.out.2.2
  have B4 := hid hb4; have C4 := hid hC4
  clear hend hb4 hC4 i0
  have i1 := (I3.out.below B4.out).box.c 1
  go_wp2_with fail
  refine (keptb_any g2 cap2 pa ca ls w4 (LA.out.below B4.out) (HLS.out w4 (I3.out.below B4.out).low) (by have := HL.out.1; omega)).mono ?_
  rintro e w5 ⟨rfl, hb5⟩
  have B5 := hid (B4.out.trans (hb5.mono B4.out.size)); have C5 := hid (C4.out.below hb5)
  clear hb5 i1 B4 C4
  have i2 := (I3.out.below B5.out).box.c 2
  go_wp2_with fail
  refine (keptb_any g3 cap3 pb cb bs w5 (LB.out.below B5.out) (HBS.out w5 (I3.out.below B5.out).low) (by have := HL.out.2.1; omega)).mono ?_
  rintro e w6 ⟨rfl, hb6⟩
  have B6 := hid (B5.out.trans (hb6.mono B5.out.size)); have C6 := hid (C5.out.below hb6)
  clear hb6 i2 B5 C5
  have i0 := (I3.out.below B6.out).box.c 0; have i1 := (I3.out.below B6.out).box.c 1; have i2 := (I3.out.below B6.out).box.c 2; have i3 := (I3.out.below B6.out).box.c 3; have i4 := (I3.out.below B6.out).box.c 4; have i5 := (I3.out.below B6.out).box.c 5; have i6 := (I3.out.below B6.out).box.c 6; have i7 := (I3.out.below B6.out).box.c 7
  go_wp2_with fail
  refine (HBO.out w6 (I3.out.below B6.out).low).mono ?_
  rintro e w7 ⟨rfl, hb7⟩
  have B7 := hid (B6.out.trans (hb7.mono B6.out.size)); have C7 := hid (C6.out.below hb7)
  clear hb7 i0 i1 i2 i3 i4 i5 i6 i7 B6 C6 HBO
  cases bv with
  | false =>
    go_wp2
    go_ret
    exact ⟨rfl, (I3.out.below B7.out).low⟩
  | true =>
  have hbb := HBV.out
  simp only [Bool.and_eq_true, decide_eq_true_eq, beq_iff_eq] at hbb
  have OK := hid (sg_ok hbb.1)
  have SA := hid (chk_ok ls none 0 hbb.2.1).1
  have SB := hid (chk_ok bs none 0 hbb.2.2).1
  clear hbb HBV
  have i0 := (I3.out.below B7.out).box.c 0; have i1 := (I3.out.below B7.out).box.c 1; have i2 := (I3.out.below B7.out).box.c 2
  go_wp2_with fail
  refine (rcompose_any S n cap sg pa ca ls pb cb bs w7 (HSG.out w7 (I3.out.below B7.out).low) (HLS.out w7 (I3.out.below B7.out).low) (HBS.out w7 (I3.out.below B7.out).low) HL.out.1 HL.out.2.1 HL.out.2.2 HN.out).mono ?_
  intro e w8 hend
  obtain ⟨Pd, cd, rfl, hBd⟩ := comp_meet OK.out SA.out SB.out C7.out hend
  have B8 := hid (B7.out.trans (hend.1.mono B7.out.size)); have C8 := hid (C7.out.below hend.1)
  have BD := hid hBd
  clear hend hBd i0 i1 i2 B7 C7
  go_wp2_with fail
  refine (rsameb_any P cc C Pd cd C w8 C8.out.1 BD.out).mono ?_
  rintro e w9 ⟨he, hb9⟩
  rw [sameA_self] at he
  subst he
  have B9 := hid (B8.out.trans (hb9.mono B8.out.size)); have C9 := hid (C8.out.below hb9)
  clear hb9 B8 C8 BD
  obtain ⟨R, hR⟩ := C9.out.2.1
  have SR := hid hR
  clear hR C9
  go_wp2_with fail
  refine (spoilb_any w3.heap.size _ R w9 SR.out).mono ?_
  rintro e w10 ⟨⟨u, rfl⟩, hf10⟩
  have B10 := hid (B9.out.trans (hf10.below (fun _ h => h) B9.out.size))
  clear hf10 B9 SR
  have i1 := (I3.out.below B10.out).box.c 1
  go_wp2_with fail
  refine (keptb_any g2 cap2 pa ca ls w10 (LA.out.below B10.out) (HLS.out w10 (I3.out.below B10.out).low) (by have := HL.out.1; omega)).mono ?_
  rintro e w11 ⟨rfl, hb11⟩
  have B11 := hid (B10.out.trans (hb11.mono B10.out.size))
  clear hb11 i1 B10
  have i2 := (I3.out.below B11.out).box.c 2
  go_wp2_with fail
  refine (keptb_any g3 cap3 pb cb bs w11 (LB.out.below B11.out) (HBS.out w11 (I3.out.below B11.out).low) (by have := HL.out.2.1; omega)).mono ?_
  rintro e w12 ⟨rfl, hb12⟩
  have I12 := hid ((I3.out.below B11.out).below hb12)
  clear hb12 i2 B11
  go_wp2
  go_ret
  exact ⟨rfl, I12.out.low⟩
end Go.Proofs.YtgidgmgpgfonnaaGreat
