import Derived.Deep.RegionHeld3
import Derived.Test.YtgidgmgpgfonnaaKSAt
/- The walk of SubstLaws. -/
namespace Go.Proofs.Ytgidgmgpgfonnaa
open Go.RowKit Go.Deep

abbrev Z27 : Obj := .cells #[.string ⟨#[]⟩, .int .i64 0, .slice none 0 0] 27
theorem blOver {w W : World} (h : Below w.heap.size w W) (o : Obj) : Below w.heap.size w (W.alloc o) := h.alloc h.size o
theorem z27 (W : World) : XBox (W.alloc Z27) W.heap.size (⟨#[]⟩, 0) (.slice none 0 0) := World.alloc_heap_new W _
set_option maxRecDepth 100000 in
set_option maxHeartbeats 16000000 in
theorem substLaws_walk (q : Sm) (w : World) (hq : SmAt w q) (hz : SmSz q) : Calls Try.prog 5 #[.agg q.cells] w fun e w' => e = .returned (.bool true) ∧ Below w.heap.size w w' := by
  have HBO := hid fun (W : World) (hW : Below w.heap.size w W) => both_any q W (hq.below hW) hz
  obtain ⟨S, n, cap, sg, pa, ca, ls, pb, cb, bs, ⟨x, l⟩, a, c, pn, cn, ns, f⟩ := q
  have hz1 := hz.all
  have HQ := hid hq
  dsimp only at hz1
  have hln := totB_len ls
  have hlb := totB_len bs
  have I0 : Hid (InS w (Sm.cells ⟨S, n, cap, sg, pa, ca, ls, pb, cb, bs, (x, l), a, c, pn, cn, ns, f⟩) (w.alloc (.cells (Sm.cells ⟨S, n, cap, sg, pa, ca, ls, pb, cb, bs, (x, l), a, c, pn, cn, ns, f⟩) 30))) := hid (InS.new w _)
  have HSG := hid fun (W : World) (hW : Below w.heap.size w W) => (HQ.out.below hW).sig
  have HLS := hid fun (W : World) (hW : Below w.heap.size w W) => (HQ.out.below hW).ls
  have HBS := hid fun (W : World) (hW : Below w.heap.size w W) => (HQ.out.below hW).bs
  have HTM := hid fun (W : World) (hW : Below w.heap.size w W) => (HQ.out.below hW).tm
  dsimp only at HSG HLS HBS HTM
  unfold Sm.cells at I0 HBO ⊢
  dsimp only at I0 HBO ⊢
  have hl1 : ls.length ≤ 1000000 := by omega
  have hl2 : bs.length ≤ 1000000 := by omega
  have hl3 : ls.length + bs.length ≤ 1048576 := by omega
  have hnl : nodesF l ≤ 1048572 := by omega
  obtain ⟨bv, hbv⟩ : ∃ bv, ((checkE sg == 0) && (decide ((chkB sg ls none 0).1 = 0) && decide ((chkB sg bs none 0).1 = 0))) = bv := ⟨_, rfl⟩
  rw [hbv] at HBO
  have HBV := hid hbv
  clear hz hq hz1 hln hlb HQ hbv
  go_enter Try.func5, Try.ntmps5
  go_wp2_with fail
  refine (shead_any _).mono ?_
  rintro e w1 ⟨rfl, hb1⟩
  have I1 := hid (I0.out.below hb1)
  clear I0 hb1
  have i0 := I1.out.box.c 0; have i1 := I1.out.box.c 1; have i2 := I1.out.box.c 2; have i3 := I1.out.box.c 3; have i4 := I1.out.box.c 4; have i5 := I1.out.box.c 5; have i6 := I1.out.box.c 6; have i7 := I1.out.box.c 7
  go_wp2_with fail
  refine (HBO.out w1 I1.out.low).mono ?_
  rintro e w2 ⟨rfl, hb2⟩
  have I2 := hid (I1.out.below hb2)
  clear I1 hb2 i0 i1 i2 i3 i4 i5 i6 i7 HBO
  have i0 := I2.out.box.c 0; have i3 := I2.out.box.c 3; have i4 := I2.out.box.c 4; have i5 := I2.out.box.c 5
  go_wp2_with fail
  refine (rright_any S n cap sg (x, l) a c w2 (HSG.out w2 I2.out.low) (HTM.out w2 I2.out.low)).mono ?_
  rintro e w3 ⟨rfl, hb3⟩
  have I3 := hid (I2.out.below hb3)
  clear I2 hb3 i0 i3 i4 i5
  cases bv with
  | false =>
    go_wp2
    go_ret
    exact ⟨rfl, I3.out.low⟩
  | true =>
  cases hrt : rightB sg (x, l) with
  | false =>
    go_wp2
    go_ret
    exact ⟨rfl, I3.out.low⟩
  | true =>
  obtain ⟨hOk, hRT⟩ := right_facts hrt
  have hbb := HBV.out
  simp only [Bool.and_eq_true, decide_eq_true_eq] at hbb
  have hSA := (chk_ok ls none 0 hbb.2.1).1
  have hSB := (chk_ok bs none 0 hbb.2.2).1
  have OK := hid hOk; have RT := hid hRT; have SA := hid hSA; have SB := hid hSB
  clear hrt hOk hRT hbb hSA hSB HBV
  have i0 := I3.out.box.c 0; have i1 := I3.out.box.c 1; have i3 := I3.out.box.c 3; have i4 := I3.out.box.c 4; have i5 := I3.out.box.c 5
  go_wp2_with fail
  refine (papply_any S n cap sg pa ca ls x l a c w3 (HSG.out w3 I3.out.low) (HLS.out w3 I3.out.low) (by omega) (HTM.out w3 I3.out.low)).mono ?_
  intro e w4 hend
  obtain ⟨k1, e1, rfl, hb4, hE4, hr4⟩ := hend.form2
  have bx := alloc_below0 w4 (.cells #[.string k1.x.1, .int .i64 k1.x.2, .slice k1.a (lenF k1.l) k1.c] 27)
  have I4 := hid ((I3.out.below hb4).below bx)
  have T1 := hid ((SepTm.tm hE4.1).below bx)
  have X1 : Hid (XBox (w4.alloc (.cells #[.string k1.x.1, .int .i64 k1.x.2, .slice k1.a (lenF k1.l) k1.c] 27)) w4.heap.size k1.x (.slice k1.a (lenF k1.l) k1.c)) := hid (World.alloc_heap_new w4 _)
  have R1 := hid (apply_right OK.out SA.out.nodup SA.out.rights RT.out hr4)
  clear hend hb4 hE4 hr4 bx i0 i1 i3 i4 i5 I3
  have i0 := I4.out.box.c 0; have i2 := I4.out.box.c 2
  have x0 := X1.out.c0; have x1 := X1.out.c1; have x2 := X1.out.c2
  go_wp2_with fail
  clear i0 i2 x0 x1 x2
  generalize w4.alloc (.cells #[.string k1.x.1, .int .i64 k1.x.2, .slice k1.a (lenF k1.l) k1.c] 27) = W4 at I4 T1 X1 ⊢
  generalize w4.heap.size = g1 at X1 ⊢
  refine (papply_any S n cap sg pb cb bs k1.x k1.l k1.a k1.c W4 (HSG.out W4 I4.out.low) (HBS.out W4 I4.out.low) (by omega) T1.out).mono ?_
  intro e w5 hend
  obtain ⟨k2, e2, rfl, hb5, hE5, hr5⟩ := hend.form2
  have bx := alloc_below0 w5 (.cells #[.string k2.x.1, .int .i64 k2.x.2, .slice k2.a (lenF k2.l) k2.c] 27)
  have B5 := hid (hb5.trans (bx.mono hb5.size))
  have T2 := hid ((SepTm.tm hE5.1).below bx)
  have X2 : Hid (XBox (w5.alloc (.cells #[.string k2.x.1, .int .i64 k2.x.2, .slice k2.a (lenF k2.l) k2.c] 27)) w5.heap.size k2.x (.slice k2.a (lenF k2.l) k2.c)) := hid (World.alloc_heap_new w5 _)
  have R2 := hid hr5
  clear hend hb5 hE5 hr5 bx
  have i0 := (I4.out.below B5.out).box.c 0; have i1 := (I4.out.below B5.out).box.c 1; have i2 := (I4.out.below B5.out).box.c 2
  go_wp2_with fail
  clear i0 i1 i2
  generalize w5.alloc (.cells #[.string k2.x.1, .int .i64 k2.x.2, .slice k2.a (lenF k2.l) k2.c] 27) = W5 at B5 T2 X2 ⊢
  generalize w5.heap.size = g2 at X2 ⊢
  refine (pcompose_any S n cap sg pa ca ls pb cb bs W5 (HSG.out W5 (I4.out.below B5.out).low) (HLS.out W5 (I4.out.below B5.out).low) (HBS.out W5 (I4.out.below B5.out).low) hl1 hl2 hl3).mono ?_
  rintro e w6 ⟨hb6, hcomp⟩
  have hform : ∃ (P : Option Addr) (cc : Nat) (C : List Bn) (ec : Int), e = .returned (.tuple #[.slice P C.length cc, .int .i64 ec]) ∧ BindsAt w6 P C.length C ∧ C.length ≤ 1048576 ∧ (ec = 0 → CompOk sg ls bs C) ∧ (ec = 0 ∨ ec = 73) := by
    rcases hcomp with ⟨rfl, _⟩ | ⟨_, v, ks, ms, R, rs, rfl, h1, h2, h3, h4, _, h6, h7⟩
    · exact ⟨none, 0, [], 73, rfl, ⟨rfl, by simp, fun i hi => absurd hi (by simp), fun x hx => by cases hx⟩, by simp, fun h => (by cases h), .inr rfl⟩
    · have hok := comp_ok OK.out SA.out SB.out h1 h2 h3 h4 h6.1
      have hlen : R.length ≤ 1048576 := by
        rw [← h6.1.length_eq, List.length_append, h3]
        have g1 := comp1_len ls rs
        have g2 := congrArg List.length h4
        rw [List.length_map] at g2
        have g3 := List.length_filter_le (fun b : Bn => (lkB ls b.1).isNone) bs
        omega
      have hfit : ∀ b ∈ R.map bkBn, b.1.size ≤ maxLen := fun b hb => by
        obtain ⟨k, hk, rfl⟩ := List.mem_map.1 hb
        have hk2 : k ∈ ks ++ ms := h6.1.mem_iff.2 hk
        rcases List.mem_append.1 hk2 with hk2 | hk2
        · rw [h3] at hk2
          obtain ⟨i, g1, g2, rfl, _⟩ := comp1_mem hk2
          exact (HLS.out w (Below.refl _ _)).fits ls[i] (List.getElem_mem g1)
        · have hm : bkBn k ∈ bs.filter (fun b => (lkB ls b.1).isNone) := by rw [← h4]; exact List.mem_map_of_mem hk2
          exact (HBS.out w (Below.refl _ _)).fits _ (List.mem_filter.1 hm).1
      obtain ⟨P, cc, rfl, hB⟩ := h7.at_ rfl hfit
      exact ⟨P, cc, R.map bkBn, 0, rfl, hB, by rw [List.length_map]; exact hlen, fun _ => hok, .inl rfl⟩
  obtain ⟨Pc, cc, C, ec, rfl, hBC, hlC, hokC, hec⟩ := hform
  have B6 := hid (B5.out.trans (hb6.mono B5.out.size))
  have BC := hid hBC; have OKC := hid hokC; have EC := hid hec
  have X2' := hid (X2.out.below hb6); have T2' := hid (T2.out.below hb6)
  clear hb6 hcomp hBC hokC hec X2 T2 B5
  have i0 := (I4.out.below B6.out).box.c 0; have i3 := (I4.out.below B6.out).box.c 3; have i4 := (I4.out.below B6.out).box.c 4; have i5 := (I4.out.below B6.out).box.c 5
  go_wp2_with fail
  refine (papply_any S n cap sg Pc cc C x l a c w6 (HSG.out w6 (I4.out.below B6.out).low) BC.out hlC (HTM.out w6 (I4.out.below B6.out).low)).mono ?_
  intro e w7 hend
  obtain ⟨k3, e3, rfl, hb7, hE7, hr7⟩ := hend.form2
  have bx := alloc_below0 w7 (.cells #[.string k3.x.1, .int .i64 k3.x.2, .slice k3.a (lenF k3.l) k3.c] 27)
  have B7 := hid (B6.out.trans ((hb7.trans (bx.mono hb7.size)).mono B6.out.size))
  have T3 := hid ((SepTm.tm hE7.1).below bx)
  have X3 : Hid (XBox (w7.alloc (.cells #[.string k3.x.1, .int .i64 k3.x.2, .slice k3.a (lenF k3.l) k3.c] 27)) w7.heap.size k3.x (.slice k3.a (lenF k3.l) k3.c)) := hid (World.alloc_heap_new w7 _)
  have T2'' := hid ((T2'.out.below hb7).below bx); have X2'' := hid ((X2'.out.below hb7).below bx)
  have R3 := hid hr7
  clear hend hb7 hE7 hr7 bx i0 i3 i4 i5 T2' X2' B6
  go_upto_region 10 with fail
  generalize w7.alloc (.cells #[.string k3.x.1, .int .i64 k3.x.2, .slice k3.a (lenF k3.l) k3.c] 27) = W7 at B7 T3 X3 T2'' X2'' ⊢
  generalize w7.heap.size = g3 at X3 ⊢
  rcases R1.out with ⟨_, rfl⟩ | ⟨hs1, rfl, ht1⟩
  · go_wp2_with fail
    go_ret
    exact ⟨rfl, (I4.out.below B7.out).low⟩
  have HS1 := hid hs1; have HT1 := hid ht1
  clear hs1 ht1
  go_cut [97] (fun v wc => v = .bool false ∧ Below W7.heap.size W7 wc)
  case first =>
    by_cases he2 : e2 = 0
    · by_cases he3 : ec = 0
      · by_cases he4 : e3 = 0
        · have hRx : RightT (sgOf sg) (arAt sg) (k1.x, k1.l) := by
            have : (k1.x, k1.l) = canonT (sgOf sg) (subN (getN ls) (x, l)) := HT1.out
            rw [this]
            exact right_of_can (canonT_can OK.out (subG_right (getN_rightG SA.out.rights) RT.out))
          have h2 : k2.tn = canonT (sgOf sg) (subN (getN bs) (canonT (sgOf sg) (subN (getN ls) (x, l)))) := by
            rcases apply_right OK.out SB.out.nodup SB.out.rights hRx R2.out with ⟨_, h⟩ | ⟨_, _, h⟩
            · rw [he2] at h; cases h
            · rw [h]; rw [show (k1.x, k1.l) = canonT (sgOf sg) (subN (getN ls) (x, l)) from HT1.out]
          have hC := OKC.out he3
          have h3 : k3.tn = canonT (sgOf sg) (subN (getN C) (x, l)) := by
            rcases apply_right OK.out hC.nodup hC.right RT.out R3.out with ⟨_, h⟩ | ⟨_, _, h⟩
            · rw [he4] at h; cases h
            · exact h
          have h4 : k2.tn = k3.tn := by rw [h2, h3]; exact sub_comp OK.out (getN_rightG SA.out.rights) (getN_rightG SB.out.rights) hC.get RT.out
          have HX := hid (rexact_any k2.tn k3.tn k2.a k3.a k2.c k3.c W7 T2''.out T3.out)
          have H4 := hid h4
          have y0 := X2''.out.c0; have y1 := X2''.out.c1; have y2 := X2''.out.c2
          have z0 := X3.out.c0; have z1 := X3.out.c1; have z2 := X3.out.c2
          subst he2 he3 he4
          clear h2 h3 h4 hC hRx
          go_wp2_with fail
          refine HX.out.mono ?_
          rintro e w8 ⟨he, hb8⟩
          have he' : e = .returned (.bool true) := by rw [he, H4.out, exN_self]
          subst he'
          have B8 := hid hb8
          clear he hb8 y0 y1 y2 z0 z1 z2
          go_wp2_with fail
          go_meet
          exact ⟨rfl, B8.out⟩
        · have he5 : e3 = 73 := by
            rcases R3.out with ⟨_, _, h⟩ | ⟨_, h, _⟩
            · exact h
            · exact absurd h he4
          subst he2 he3 he5
          clear he4
          go_wp2_with fail
          go_meet
          exact ⟨rfl, Below.refl _ _⟩
      · have he5 : ec = 73 := EC.out.resolve_left he3
        subst he2 he5
        clear he3
        go_wp2_with fail
        go_meet
        exact ⟨rfl, Below.refl _ _⟩
    · have he5 : e2 = 73 := by
        rcases R2.out with ⟨_, _, h⟩ | ⟨_, h, _⟩
        · exact h
        · exact absurd h he2
      subst he5
      clear he2
      go_wp2_with fail
      go_meet
      exact ⟨rfl, Below.refl _ _⟩
  case rest =>
  obtain ⟨rfl, hb8⟩ := hcut
  rename World => w8
  have I8 := hid ((I4.out.below B7.out).below hb8)
  have X8 := hid ((X1.out.below B7.out).below hb8); have T8 := hid ((T1.out.below B7.out).below hb8)
  clear hb8 B7 I4 X1 T1 T2'' X2'' T3 X3 R1 R2 R3 OKC EC BC hlC
  obtain ⟨XT, hXT⟩ : ∃ XT, canonT (sgOf sg) (subN (getN ls) (x, l)) = XT := ⟨_, rfl⟩
  obtain ⟨CT, hCT⟩ : ∃ CT, canonT (sgOf sg) (x, l) = CT := ⟨_, rfl⟩
  have hkx : k1.tn = XT := by rw [HT1.out, hXT]
  have hRC : RightT (sgOf sg) (arAt sg) CT := by rw [← hCT]; exact right_of_can (canonT_can OK.out RT.out)
  have hgA := getN_rightG SA.out.rights
  have f4 : sizeT (subN (getN ls) CT) ≤ 400 ∧ canonT (sgOf sg) (subN (getN ls) CT) = XT := by
    rw [← hCT]
    exact ⟨Nat.le_trans (canon_wt _ _ _) HS1.out, by rw [sub_canon OK.out hgA RT.out, hXT]⟩
  have f6 : sizeT (subN (getN []) CT) ≤ 400 ∧ canonT (sgOf sg) (subN (getN []) CT) = CT := by
    refine ⟨?_, ?_⟩
    · rw [← hCT]
      refine Nat.le_trans (canon_wt _ _ _) (Nat.le_trans ?_ HS1.out)
      exact wt_mono (fun s => by show sizeT ((s, 0), .nil) ≤ _; unfold sizeT; simp [nodesF]) _ (x, l) (Nat.le_refl _)
    · rw [sub_id hRC, ← hCT, canonT_twice OK.out RT.out]
  have HA4 : Hid (∀ W ta tc, Below w.heap.size w W → TmAt W CT.1 ta tc CT.2 → Calls Try.prog 9 #[.slice S n cap, .slice pa ls.length ca, .agg #[.string CT.1.1, .int .i64 CT.1.2, .slice ta (lenF CT.2) tc]] W fun e w' => ∃ k : Kv, e = .returned (.tuple #[.agg #[.string k.x.1, .int .i64 k.x.2, .slice k.a (lenF k.l) k.c], .int .i64 0]) ∧ k.tn = XT ∧ SepTm w' (fun q => W.heap.size ≤ q) k.x k.a k.c k.l ∧ Below W.heap.size W w') := hid fun W ta tc hW hT => by
    refine (papply_any S n cap sg pa ca ls CT.1 CT.2 ta tc W (HSG.out W hW) (HLS.out W hW) (by omega) hT).mono ?_
    intro e w' hend
    obtain ⟨k, er, rfl, hb, hE, hr⟩ := hend.form2
    rcases apply_right OK.out SA.out.nodup SA.out.rights hRC hr with ⟨h, _⟩ | ⟨_, rfl, h⟩
    · exact absurd f4.1 (by have h' : 400 < sizeT (subN (getN ls) CT) := h; omega)
    · exact ⟨k, rfl, h.trans f4.2, hE.1, hb⟩
  have HA6 : Hid (∀ W ta tc, Below w.heap.size w W → TmAt W CT.1 ta tc CT.2 → Calls Try.prog 9 #[.slice S n cap, .slice none 0 0, .agg #[.string CT.1.1, .int .i64 CT.1.2, .slice ta (lenF CT.2) tc]] W fun e w' => ∃ k : Kv, e = .returned (.tuple #[.agg #[.string k.x.1, .int .i64 k.x.2, .slice k.a (lenF k.l) k.c], .int .i64 0]) ∧ k.tn = CT ∧ SepTm w' (fun q => W.heap.size ≤ q) k.x k.a k.c k.l ∧ Below W.heap.size W w') := hid fun W ta tc hW hT => by
    refine (papply_any S n cap sg none 0 [] CT.1 CT.2 ta tc W (HSG.out W hW) ⟨rfl, by simp, fun i hi => absurd hi (by simp), fun x hx => by cases hx⟩ (by simp) hT).mono ?_
    intro e w' hend
    obtain ⟨k, er, rfl, hb, hE, hr⟩ := hend.form2
    rcases apply_right OK.out (by simp) (fun b hb => by cases hb) hRC hr with ⟨h, _⟩ | ⟨_, rfl, h⟩
    · exact absurd f6.1 (by have h' : 400 < sizeT (subN (getN []) CT) := h; omega)
    · exact ⟨k, rfl, h.trans f6.2, hE.1, hb⟩
  obtain ⟨nms, hnms⟩ : ∃ nms, Lib.compact (sortL (namesN x ++ namesFo l)) = nms := ⟨_, rfl⟩
  have hmn : ∀ s : ByteArray, s.data.toList ∈ namesN x ++ namesFo l → inL (nms.map (fun nm => (⟨nm.toArray⟩ : ByteArray))) s = true := fun s hs => inL_names (by rw [← hnms]; exact ((vars_ss _).2 _).2 hs)
  have hms : ∀ nm ∈ nms, nm.length ≤ maxLen := fun nm h => names_small_tm (HTM.out w (Below.refl _ _)) nm (((vars_ss _).2 _).1 (by rw [hnms]; exact h))
  have hml : nms.length ≤ 1048576 := by
    have h1 : nms.length ≤ (namesN x ++ namesFo l).length := by
      rw [← hnms]
      exact List.Nodup.length_le_of_subset ((vars_ss _).1.imp (fun {a b} h e => by rw [e] at h; exact ltN_irrefl _ h)) (fun nm h => ((vars_ss _).2 nm).1 h)
    rw [List.length_append] at h1
    have := namesN_len x
    have := namesFo_len l
    omega
  obtain ⟨vs, hvs⟩ : ∃ vs, nms.map (fun nm => (⟨nm.toArray⟩ : ByteArray)) = vs := ⟨_, rfl⟩
  have hvl : vs.length ≤ 1048576 := by rw [← hvs, List.length_map]; exact hml
  have HV25 : Hid (∀ W, Below w.heap.size w W → Calls Try.prog 25 #[.agg #[.string x.1, .int .i64 x.2, .slice a (lenF l) c]] W fun e w' => ∃ Pv cv, e = .returned (.slice Pv vs.length cv) ∧ StrsAt w' Pv vs.length vs ∧ Below W.heap.size W w') := hid fun W hW => by
    refine (rvars_any x l a c W (HTM.out W hW) (by omega)).mono ?_
    rintro e w' ⟨v, rfl, hr, hb⟩
    rw [hnms] at hr
    obtain ⟨Pv, cv, h1, h2⟩ := strs_of hr hms
    rw [hvs] at h1 h2
    exact ⟨Pv, cv, by rw [h1], h2, hb⟩
  obtain ⟨F, hF⟩ : ∃ F, ls.filter (fun b => inL vs b.1) = F := ⟨_, rfl⟩
  have hFl : F.length ≤ 1048576 := by rw [← hF]; have := List.length_filter_le (fun b : Bn => inL vs b.1) ls; omega
  have HV17 : Hid (∀ W Pv cv, Below w.heap.size w W → StrsAt W Pv vs.length vs → Calls Try.prog 17 #[.slice pa ls.length ca, .slice Pv vs.length cv] W fun e w' => ∃ Pr cr, e = .returned (.slice Pr F.length cr) ∧ BindsAt w' Pr F.length F ∧ Below W.heap.size W w') := hid fun W Pv cv hW hN => by
    refine (restrict_any pa ca ls Pv cv vs W (HLS.out W hW) hN (by omega) hvl).mono ?_
    rintro e w' ⟨v, ks, rfl, h1, h2, h3⟩
    rw [hF] at h2
    obtain ⟨Pr, cr, h4, h5⟩ := h1.at_ h2 (fun b hb => (HLS.out w (Below.refl _ _)).fits b (by rw [← hF] at hb; exact (List.mem_filter.1 hb).1))
    exact ⟨Pr, cr, by rw [h4], h5, h3⟩
  have HV9 : Hid (∀ W Pr cr, Below w.heap.size w W → BindsAt W Pr F.length F → Calls Try.prog 9 #[.slice S n cap, .slice Pr F.length cr, .agg #[.string x.1, .int .i64 x.2, .slice a (lenF l) c]] W fun e w' => ∃ k : Kv, e = .returned (.tuple #[.agg #[.string k.x.1, .int .i64 k.x.2, .slice k.a (lenF k.l) k.c], .int .i64 0]) ∧ k.tn = XT ∧ SepTm w' (fun q => W.heap.size ≤ q) k.x k.a k.c k.l ∧ Below W.heap.size W w') := hid fun W Pr cr hW hB => by
    refine (papply_any S n cap sg Pr cr F x l a c W (HSG.out W hW) hB hFl (HTM.out W hW)).mono ?_
    intro e w' hend
    obtain ⟨k, er, rfl, hb, hE, hr⟩ := hend.form2
    have e0 : subN (getN F) (x, l) = subN (getN ls) (x, l) := by
      rw [← pinN_sub, ← pinN_sub, ← hF]
      refine pinN_filter ls x l (fun s hs => ?_)
      rw [← hvs]
      exact hmn s hs
    have hnF : (F.map (·.1)).Nodup := by rw [← hF]; exact SA.out.nodup.sublist (List.Sublist.map _ List.filter_sublist)
    have hrF : ∀ b ∈ F, RightT (sgOf sg) (arAt sg) b.2 := fun b hb => SA.out.rights b (by rw [← hF] at hb; exact (List.mem_filter.1 hb).1)
    rcases apply_right OK.out hnF hrF RT.out hr with ⟨h, _⟩ | ⟨_, rfl, h⟩
    · rw [e0] at h; exact absurd HS1.out (by omega)
    · rw [e0, hXT] at h; exact ⟨k, rfl, h, hE.1, hb⟩
  have HKX := hid hkx
  clear hkx hRC hgA f4 f6 hmn hms hml hvl hFl hF hvs hnms hXT
  have HCC := hid fun (W : World) (hW : Below w.heap.size w W) => canon_all S n cap sg 1048576 (Nat.le_refl _) (x, l) a c W (by show nodesF l ≤ _; omega) (HSG.out W hW) (HTM.out W hW)
  rw [hCT] at HCC
  clear hCT
  have i0 := I8.out.box.c 0; have i3 := I8.out.box.c 3; have i4 := I8.out.box.c 4; have i5 := I8.out.box.c 5
  go_wp2_with fail
  refine (HCC.out w8 I8.out.low).mono ?_
  rintro e w9 ⟨a9, c9, rfl, hO9, hb9⟩
  have bx := alloc_below0 w9 (.cells #[.string CT.1.1, .int .i64 CT.1.2, .slice a9 (lenF CT.2) c9] 27)
  have I9 := hid ((I8.out.below hb9).below bx)
  have X9 := hid ((X8.out.below hb9).below bx); have T9 := hid ((T8.out.below hb9).below bx)
  have C9 := hid (hO9.tm.below bx)
  have Y9 : Hid (XBox (w9.alloc (.cells #[.string CT.1.1, .int .i64 CT.1.2, .slice a9 (lenF CT.2) c9] 27)) w9.heap.size CT.1 (.slice a9 (lenF CT.2) c9)) := hid (World.alloc_heap_new w9 _)
  clear hO9 hb9 bx i0 i3 i4 i5 I8 X8 T8
  have i0 := I9.out.box.c 0; have i1 := I9.out.box.c 1
  have y0 := Y9.out.c0; have y1 := Y9.out.c1; have y2 := Y9.out.c2
  go_wp2_with fail
  clear i0 i1 y0 y1 y2
  generalize w9.alloc (.cells #[.string CT.1.1, .int .i64 CT.1.2, .slice a9 (lenF CT.2) c9] 27) = W9 at I9 X9 T9 C9 Y9 ⊢
  generalize w9.heap.size = g9 at Y9 ⊢
  refine (HA4.out W9 a9 c9 I9.out.low C9.out).mono ?_
  rintro e w10 ⟨k4, rfl, hk4, hE10, hb10⟩
  have bx := alloc_below0 w10 (.cells #[.string k4.x.1, .int .i64 k4.x.2, .slice k4.a (lenF k4.l) k4.c] 27)
  have B10 := hid (hb10.trans (bx.mono hb10.size))
  have K4 := hid hk4
  have T4 := hid ((SepTm.tm hE10).below bx)
  have X4 : Hid (XBox (w10.alloc (.cells #[.string k4.x.1, .int .i64 k4.x.2, .slice k4.a (lenF k4.l) k4.c] 27)) w10.heap.size k4.x (.slice k4.a (lenF k4.l) k4.c)) := hid (World.alloc_heap_new w10 _)
  clear hk4 hE10 hb10 bx
  go_upto_region 16 with fail
  generalize w10.alloc (.cells #[.string k4.x.1, .int .i64 k4.x.2, .slice k4.a (lenF k4.l) k4.c] 27) = V at B10 T4 X4 ⊢
  generalize w10.heap.size = g4 at X4 ⊢
  have IV := hid (I9.out.below B10.out)
  have i0 := IV.out.box.c 0; have i1 := IV.out.box.c 1; have i3 := IV.out.box.c 3; have i4 := IV.out.box.c 4; have i5 := IV.out.box.c 5
  have Q0 : Hid (V.cell? ⟨w.heap.size, 0, none⟩ = some (.slice S n cap)) := hid i0
  have Q1 : Hid (V.cell? ⟨w.heap.size, 1, none⟩ = some (.slice pa ls.length ca)) := hid i1
  have Q3 : Hid (V.cell? ⟨w.heap.size, 3, none⟩ = some (.string x.1)) := hid i3
  have Q4 : Hid (V.cell? ⟨w.heap.size, 4, none⟩ = some (.int .i64 x.2)) := hid i4
  have Q5 : Hid (V.cell? ⟨w.heap.size, 5, none⟩ = some (.slice a (lenF l) c)) := hid i5
  have HL := hid IV.out.low
  clear i0 i1 i3 i4 i5
  go_cut [17, 18] (fun p e wc => ∃ (g : Nat) (k : Kv), p = .pointer (some ⟨g, 0, none⟩) ∧ e = .int .i64 0 ∧ XBox wc g k.x (.slice k.a (lenF k.l) k.c) ∧ TmAt wc k.x k.a k.c k.l ∧ k.tn = XT ∧ Below V.heap.size V wc)
  case first =>
    have hbz : Below w.heap.size w V := HL.out
    have hlz := HL.out.size
    go_region_held3 (fun w' => w'.cell? ⟨w.heap.size, 0, none⟩ = some (.slice S n cap) ∧ w'.cell? ⟨w.heap.size, 1, none⟩ = some (.slice pa ls.length ca) ∧ w'.cell? ⟨w.heap.size, 3, none⟩ = some (.string x.1) ∧ w'.cell? ⟨w.heap.size, 4, none⟩ = some (.int .i64 x.2) ∧ w'.cell? ⟨w.heap.size, 5, none⟩ = some (.slice a (lenF l) c)) ((first
      | (refine ⟨?_, ?_, ?_, ?_, ?_⟩ <;> (with_reducible refine below_cell (w := V) ?_ _ _ ?_; (solve | (repeat' first | (with_reducible exact Below.refl _ V) | (with_reducible exact HB3.out) | (with_reducible exact HB2.out) | (with_reducible exact HB1.out) | (with_reducible refine Below.drew ?_) | (with_reducible refine blOver ?_ _) | (with_reducible refine sets_below ?_ (Nat.le_refl _) _ _ _) | (with_reducible refine sets_below ?_ HB1.out.size _ _ _) | (with_reducible refine sets_below ?_ HB2.out.size _ _ _))); first | exact Q0.out | exact Q1.out | exact Q3.out | exact Q4.out | exact Q5.out))
      | fail)) ((first
      | (go_at_call 25; refine Calls.mono (HV25.out _ ?_) ?_; (first | exact HL.out.drew | exact (blOver HL.out _).drew); rintro e w5 ⟨Pv, cv, rfl, hv5, hb5⟩; have HV5 := hid hv5; first
          | (have HB1 : Hid (Below V.heap.size V w5) := hid (((Below.refl _ V).drew).trans hb5); clear hv5 hb5)
          | (have HB1 : Hid (Below V.heap.size V w5) := hid (((alloc_below0 V Z27).drew).trans (hb5.mono (show V.heap.size ≤ (V.alloc Z27).heap.size from Nat.le_trans (Nat.le_succ _) (Nat.le_of_eq (World.size_alloc _ _).symm)))); have HY1 : Hid (XBox w5 V.heap.size (⟨#[]⟩, 0) (.slice none 0 0)) := hid (XBox.below (W := World.drew (World.alloc V Z27)) (z27 V) hb5); clear hv5 hb5))
      | (go_at_call 17; refine Calls.mono (HV17.out _ Pv cv ?_ ?_) ?_; (first | exact HL.out.trans (HB1.out.mono HL.out.size) | exact blOver (HL.out.trans (HB1.out.mono HL.out.size)) _); (first | exact HV5.out | exact HV5.out.below (alloc_below0 w5 _)); rintro e w6 ⟨Pr, cr, rfl, hr6, hb6⟩; have HR6 := hid hr6; first
          | (have HB2 : Hid (Below V.heap.size V w6) := hid (HB1.out.trans (hb6.mono HB1.out.size)); first | (have HY2 : Hid (XBox w6 V.heap.size (⟨#[]⟩, 0) (.slice none 0 0)) := hid (HY1.out.below hb6); clear hr6 hb6) | (clear hr6 hb6))
          | (have HB2 : Hid (Below V.heap.size V w6) := hid ((blOver HB1.out Z27).trans (hb6.mono (blOver HB1.out Z27).size)); have HY2 : Hid (XBox w6 w5.heap.size (⟨#[]⟩, 0) (.slice none 0 0)) := hid (XBox.below (W := World.alloc w5 Z27) (z27 w5) hb6); clear hr6 hb6))
      | (go_at_call 9; refine Calls.mono (HV9.out _ Pr cr ?_ ?_) ?_; (first | exact HL.out.trans (HB2.out.mono HL.out.size) | exact blOver (HL.out.trans (HB2.out.mono HL.out.size)) _); (first | exact HR6.out | exact HR6.out.below (alloc_below0 w6 _)); rintro e w7 ⟨k5, rfl, hk5, hs7, hb7⟩; have K5 := hid hk5; first
          | (have HB3 : Hid (Below V.heap.size V w7) := hid (HB2.out.trans (hb7.mono HB2.out.size)); have HS7 := hid hs7; first | (have HY3 := hid (HY2.out.below hb7); have HLT := hid HY2.out.lt; have y0 := HY3.out.c0; have y1 := HY3.out.c1; have y2 := HY3.out.c2; have z0 := HY3.out.f (k := 0); have z1 := HY3.out.f (k := 1); have z2 := HY3.out.f (k := 2); clear hk5 hs7 hb7) | (clear hk5 hs7 hb7))
          | (have HB3 : Hid (Below V.heap.size V w7) := hid ((blOver HB2.out Z27).trans (hb7.mono (blOver HB2.out Z27).size)); have HS7 := hid hs7; have HY3 : Hid (XBox w7 w6.heap.size (⟨#[]⟩, 0) (.slice none 0 0)) := hid (XBox.below (W := World.alloc w6 Z27) (z27 w6) hb7); have HLT : Hid (w6.heap.size < (w6.alloc Z27).heap.size) := hid (by simp); have y0 := HY3.out.c0; have y1 := HY3.out.c1; have y2 := HY3.out.c2; have z0 := HY3.out.f (k := 0); have z1 := HY3.out.f (k := 1); have z2 := HY3.out.f (k := 2); clear hk5 hs7 hb7))
      | fail))
    all_goals (go_wp2_with fail; go_meet)
    all_goals first
      | exact ⟨w7.heap.size, k5, rfl, rfl, World.alloc_heap_new w7 _, (SepTm.tm HS7.out).below (alloc_below0 w7 _), K5.out, blOver HB3.out _⟩
      | exact ⟨V.heap.size, k5, rfl, rfl, HY3.out.all (x := k5.x) _, SepTm.tm (HS7.out.keep (fun q hq _ => sets_far (by have := HLT.out; omega) _ _ _)), K5.out, sets_below HB3.out (Nat.le_refl _) _ _ _⟩
      | exact ⟨w5.heap.size, k5, rfl, rfl, HY3.out.all (x := k5.x) _, SepTm.tm (HS7.out.keep (fun q hq _ => sets_far (by have := HLT.out; omega) _ _ _)), K5.out, sets_below HB3.out HB1.out.size _ _ _⟩
      | exact ⟨w6.heap.size, k5, rfl, rfl, HY3.out.all (x := k5.x) _, SepTm.tm (HS7.out.keep (fun q hq _ => sets_far (by rw [World.size_alloc] at hq; omega) _ _ _)), K5.out, sets_below HB3.out HB2.out.size _ _ _⟩
  case rest =>
  obtain ⟨g5, k5, rfl, rfl, hX5, hT5, hk5, hb11⟩ := hcut
  rename World => w11
  have B11 := hid hb11
  have D11 := hid (B10.out.trans (hb11.mono B10.out.size))
  have X5 := hid hX5; have T5 := hid hT5; have K5 := hid hk5
  clear hX5 hT5 hk5 hb11 Q0 Q1 Q3 Q4 Q5 HL HV25 HV17 HV9 HA4
  have i0 := (I9.out.below D11.out).box.c 0
  have y0 := (Y9.out.below D11.out).c0; have y1 := (Y9.out.below D11.out).c1; have y2 := (Y9.out.below D11.out).c2
  go_wp2_with fail
  refine (HA6.out w11 a9 c9 (I9.out.below D11.out).low (C9.out.below D11.out)).mono ?_
  rintro e w12 ⟨k6, rfl, hk6, hE12, hb12⟩
  have bx := alloc_below0 w12 (.cells #[.string k6.x.1, .int .i64 k6.x.2, .slice k6.a (lenF k6.l) k6.c] 27)
  have hbb := hb12.trans (bx.mono hb12.size)
  have D12 := hid (D11.out.trans (hbb.mono D11.out.size))
  have B12 := hid (B11.out.trans (hbb.mono B11.out.size))
  have X5' := hid (X5.out.below hbb); have T5' := hid (T5.out.below hbb)
  have K6 := hid hk6
  have T6 := hid ((SepTm.tm hE12).below bx)
  have X6 : Hid (XBox (w12.alloc (.cells #[.string k6.x.1, .int .i64 k6.x.2, .slice k6.a (lenF k6.l) k6.c] 27)) w12.heap.size k6.x (.slice k6.a (lenF k6.l) k6.c)) := hid (World.alloc_heap_new w12 _)
  clear hk6 hE12 hb12 bx hbb i0 y0 y1 y2 B11 D11 X5 T5 HA6
  have p0 := (X4.out.below B12.out).c0; have p1 := (X4.out.below B12.out).c1; have p2 := (X4.out.below B12.out).c2
  have q0 := (X9.out.below D12.out).c0; have q1 := (X9.out.below D12.out).c1; have q2 := (X9.out.below D12.out).c2
  go_wp2_with fail
  clear p0 p1 p2 q0 q1 q2
  generalize w12.alloc (.cells #[.string k6.x.1, .int .i64 k6.x.2, .slice k6.a (lenF k6.l) k6.c] 27) = W12 at D12 B12 X5' T5' T6 X6 ⊢
  generalize w12.heap.size = g6 at X6 ⊢
  refine (rexact_any k4.tn k1.tn k4.a k1.a k4.c k1.c W12 (T4.out.below B12.out) (T9.out.below D12.out)).mono ?_
  rintro e w13 ⟨he, hb13⟩
  have he' : e = .returned (.bool true) := by rw [he, K4.out, HKX.out, exN_self]
  subst he'
  have D13 := hid (D12.out.trans (hb13.mono D12.out.size))
  have X5'' := hid (X5'.out.below hb13); have T5'' := hid (T5'.out.below hb13)
  have T6' := hid (T6.out.below hb13); have X6' := hid (X6.out.below hb13)
  clear he hb13 D12 B12 X5' T5' T6 X6
  have p0 := X5''.out.c0; have p1 := X5''.out.c1; have p2 := X5''.out.c2
  have q0 := (X9.out.below D13.out).c0; have q1 := (X9.out.below D13.out).c1; have q2 := (X9.out.below D13.out).c2
  go_wp2_with fail
  refine (rexact_any k5.tn k1.tn k5.a k1.a k5.c k1.c w13 T5''.out (T9.out.below D13.out)).mono ?_
  rintro e w14 ⟨he, hb14⟩
  have he' : e = .returned (.bool true) := by rw [he, K5.out, HKX.out, exN_self]
  subst he'
  have D14 := hid (D13.out.trans (hb14.mono D13.out.size))
  have T6'' := hid (T6'.out.below hb14); have X6'' := hid (X6'.out.below hb14)
  clear he hb14 D13 X5'' T5'' T6' X6' p0 p1 p2 q0 q1 q2
  have p0 := X6''.out.c0; have p1 := X6''.out.c1; have p2 := X6''.out.c2
  have q0 := (Y9.out.below D14.out).c0; have q1 := (Y9.out.below D14.out).c1; have q2 := (Y9.out.below D14.out).c2
  go_wp2_with fail
  refine (rexact_any k6.tn CT k6.a a9 k6.c c9 w14 T6''.out (C9.out.below D14.out)).mono ?_
  rintro e w15 ⟨he, hb15⟩
  have he' : e = .returned (.bool true) := by rw [he, K6.out, exN_self]
  subst he'
  have I15 := hid ((I9.out.below D14.out).below hb15)
  clear he hb15 D14 T6'' X6'' p0 p1 p2 q0 q1 q2
  go_wp2
  go_ret
  exact ⟨rfl, I15.out.low⟩
end Go.Proofs.Ytgidgmgpgfonnaa
