import Derived.Test.YtfnfbljijkjkjaaKSqD
/- The walk of StepTurned. -/
namespace Go.Proofs.Ytfnfbljijkjkjaa
open Go.RowKit Go.Deep

set_option maxRecDepth 100000 in
set_option maxHeartbeats 4000000 in
theorem turned_walk (hh : HeadOk) (S : Option Addr) (n cap : Nat) (sg : List Sym) (s t : Tn) (a b : Option Addr) (c d : Nat) (w : World) (hG : SigAt w S n sg) (hS : TmAt w s.1 a c s.2) (hT : TmAt w t.1 b d t.2) (hM : nodesF s.2 ≤ 1048576) (hN : nodesF t.2 ≤ 1048576) (hn : n ≤ 1048576) :
    Calls Try.prog 5 #[.slice S n cap, .agg #[.string s.1.1, .int .i64 s.1.2, .slice a (lenF s.2) c, .string t.1.1, .int .i64 t.1.2, .slice b (lenF t.2) d]] w fun e w' => e = .returned (.bool true) ∧ Below w.heap.size w w' := by
  have hl1 := lookP_len sg t s
  have hln := len_nodes t.2
  have hlen : (oneP sg t s).ls.length ≤ 1048576 := by
    unfold oneP
    split
    · simp [actW]
    · omega
  have hturn := one_turn sg s t
  obtain ⟨⟨xn, xs⟩, l⟩ := s
  obtain ⟨⟨yn, ys⟩, m⟩ := t
  dsimp only at *
  have HB0 := hid (alloc_below0 w (.cells #[.string xn, .int .i64 xs, .slice a (lenF l) c, .string yn, .int .i64 ys, .slice b (lenF m) d] 28))
  have HX := hid (Box.new w 28 #[.string xn, .int .i64 xs, .slice a (lenF l) c, .string yn, .int .i64 ys, .slice b (lenF m) d])
  have H6 := hid hh
  have H10 := hid fun (W : World) (hW : Below w.heap.size w W) => plain_any S n cap sg ((xn, xs), l) ((yn, ys), m) a b c d W (hG.below hW) (hS.below hW) (hT.below hW) hM hN hn
  have H8 := hid fun (W : World) (hW : Below w.heap.size w W) => one_any S n cap sg ((xn, xs), l) ((yn, ys), m) a b c d W (hG.below hW) (hS.below hW) (hT.below hW) hM hN
  have H8' := hid fun (W : World) (hW : Below w.heap.size w W) => one_any S n cap sg ((yn, ys), m) ((xn, xs), l) b a d c W (hG.below hW) (hT.below hW) (hS.below hW) hN hM
  obtain ⟨pb, hpb⟩ : ∃ pb, plainB sg ((xn, xs), l) ((yn, ys), m) = pb := ⟨_, rfl⟩
  obtain ⟨Va, hVa⟩ : ∃ Va, oneP sg ((xn, xs), l) ((yn, ys), m) = Va := ⟨_, rfl⟩
  obtain ⟨Vb, hVb⟩ : ∃ Vb, oneP sg ((yn, ys), m) ((xn, xs), l) = Vb := ⟨_, rfl⟩
  rw [hpb] at H10
  simp only [hVa] at H8
  simp only [hVb] at H8'
  rw [hVa, hVb] at hturn
  rw [hVb] at hlen
  have HTU := hid hturn
  clear hh hG hS hT hpb hVa hVb hl1 hln hturn
  dsimp only at *
  cases pb
  · go_enter Try.func5, Try.ntmps5
    go_wp2_with (first
      | (go_at_call 6; refine (H6.out _).mono ?_; rintro e w1 ⟨rfl, hb1⟩; have HB1 := hid (HB0.out.trans (hb1.mono HB0.out.size)); have X1 := HX.out.below hb1; have z0 := X1.c 0; have z1 := X1.c 1; have z2 := X1.c 2; have z3 := X1.c 3; have z4 := X1.c 4; have z5 := X1.c 5; clear hb1 X1)
      | (go_at_call 10; refine (H10.out _ HB1.out).mono ?_; rintro e w2 ⟨rfl, hb2⟩; have HB2 := hid (HB1.out.trans (hb2.mono HB1.out.size)); clear hb2))
    go_ret
    exact ⟨rfl, HB2.out⟩
  · go_enter Try.func5, Try.ntmps5
    go_wp2_with (first
      | (go_at_call 6; refine (H6.out _).mono ?_; rintro e w1 ⟨rfl, hb1⟩; have HB1 := hid (HB0.out.trans (hb1.mono HB0.out.size)); have X1 := HX.out.below hb1; have HX1 := hid X1; have z0 := X1.c 0; have z1 := X1.c 1; have z2 := X1.c 2; have z3 := X1.c 3; have z4 := X1.c 4; have z5 := X1.c 5; clear hb1 X1)
      | (go_at_call 10; refine (H10.out _ HB1.out).mono ?_; rintro e w2 ⟨rfl, hb2⟩; have HB2 := hid (HB1.out.trans (hb2.mono HB1.out.size)); have X2 := HX1.out.below hb2; have HX2 := hid X2; have y0 := X2.c 0; have y1 := X2.c 1; have y2 := X2.c 2; have y3 := X2.c 3; have y4 := X2.c 4; have y5 := X2.c 5; clear hb2 X2 z0 z1 z2 z3 z4 z5)
      | (go_at_call 8; (with_reducible refine (H8'.out _ HB3.out).mono ?_); rintro e w4 ⟨⟨vb, rfl, hob⟩, hb4⟩; have HOB := hid hob; have HB34 := hid hb4; obtain ⟨tk, ks, lb, lcb, rfl, htk, hks, hrow, hsep⟩ := HOB.out.is; have HTK := hid htk; have HKS := hid hks; have HROW := hid hrow; have HSEP := hid hsep; clear hob hb4 htk hks hrow hsep; unfold wayC)
      | (go_at_call 8; (with_reducible refine (H8.out _ HB2.out).mono ?_); rintro e w3 ⟨⟨va, rfl, hoa⟩, hb3⟩; have HOA := hid hoa.wy; have hbx := alloc_below0 w3 (.cells #[.int .i64 0] 36); obtain ⟨ta, tc, kva, lla, lca, rfl, hra⟩ := HOA.out.is; have hb3' : Below w2.heap.size w2 (w3.alloc (.cells (wayC Va.act Va.bv Va.t.1 ta (lenF Va.t.2) tc lla Va.ls.length lca Va.sym) 36)) := hb3.trans ((alloc_below0 w3 _).mono hb3.size); have HB3 := hid (HB2.out.trans (hb3'.mono HB2.out.size)); have HBA := hid (Box.new w3 36 (wayC Va.act Va.bv Va.t.1 ta (lenF Va.t.2) tc lla Va.ls.length lca Va.sym)); have HOA2 := hid (HOA.out.below (alloc_below0 w3 (.cells (wayC Va.act Va.bv Va.t.1 ta (lenF Va.t.2) tc lla Va.ls.length lca Va.sym) 36))); have X3 := HX2.out.below hb3'; have v0 := X3.c 0; have v1 := X3.c 1; have v2 := X3.c 2; have v3 := X3.c 3; have v4 := X3.c 4; have v5 := X3.c 5; clear hb3 hb3' X3 hoa hbx hra y0 y1 y2 y3 y4 y5; unfold wayC at *))
    have HSA : Hid ((w3.alloc (.cells #[.int .i64 Va.act, .string Va.bv, .string Va.t.1.1, .int .i64 Va.t.1.2, .slice ta (lenF Va.t.2) tc, .slice lla Va.ls.length lca, .int .i64 Va.sym] 36)).heap.size = w3.heap.size + 1) := hid (by simp)
    generalize w3.alloc (.cells #[.int .i64 Va.act, .string Va.bv, .string Va.t.1.1, .int .i64 Va.t.1.2, .slice ta (lenF Va.t.2) tc, .slice lla Va.ls.length lca, .int .i64 Va.sym] 36) = A3 at HB3 HBA HOA2 HOB HB34 HROW HSEP HSA
    clear v0 v1 v2 v3 v4 v5 HOA HX HX1 HX2 HB0 HB1 HB2 H6 H8 H8' H10
    have hbb := alloc_below0 w4 (.cells #[.int .i64 Vb.act, .string Vb.bv, .string tk.x.1, .int .i64 tk.x.2, .slice tk.a (lenF tk.l) tk.c, .slice lb Vb.ls.length lcb, .int .i64 Vb.sym] 36)
    have hBB := Box.new w4 36 #[.int .i64 Vb.act, .string Vb.bv, .string tk.x.1, .int .i64 tk.x.2, .slice tk.a (lenF tk.l) tk.c, .slice lb Vb.ls.length lcb, .int .i64 Vb.sym]
    have HBB := hid hbb; have HBOX := hid hBB
    obtain ⟨nb, hnb⟩ : ∃ nb, Vb.ls.length = nb := ⟨_, rfl⟩
    have hkl : ks.length = 2 * nb := by
      have := congrArg List.length HKS.out
      rw [List.length_map, flat_len, hnb] at this
      exact this
    rw [hnb] at hlen HROW HBB HBOX HOB ⊢
    have HNB := hid hnb; have HKL := hid hkl
    clear hbb hBB hnb hkl
    rcases HROW.out with ⟨h0, rfl, rfl⟩ | ⟨g, rfl, hgb, rfl, hge⟩
    · subst h0
      have HVB : Hid (Vb.ls = []) := hid (List.length_eq_zero_iff.1 HNB.out)
      have hbe := (HBOX.out.c 5)
      go_loopw [9] (fun i wr => i = .int .i64 0 ∧ wr = w4.alloc (.cells #[.int .i64 Vb.act, .string Vb.bv, .string tk.x.1, .int .i64 tk.x.2, .slice tk.a (lenF tk.l) tk.c, .slice none 0 0, .int .i64 Vb.sym] 36)) (fun _ _ => 0)
      case atStart => exact ⟨rfl, rfl⟩
      case round =>
        obtain ⟨rfl, rfl⟩ := hrel
        have hA := hid (HBA.out.below (HB34.out.trans (HBB.out.mono HB34.out.size)))
        have a0 := hA.out.c 0; have a1 := hA.out.c 1; have a2 := hA.out.c 2; have a3 := hA.out.c 3; have a4 := hA.out.c 4; have a5 := hA.out.c 5; have a6 := hA.out.c 6
        have HSM := hid (same_true Va _ _ _ (HOA2.out.below (HB34.out.trans (HBB.out.mono HB34.out.size))) (by
          have h := (HOB.out.wy).below HBB.out
          rw [← HTU.out, turn_none HVB.out]
          exact h) (by rw [← HTU.out, turn_none HVB.out, HVB.out]; simp))
        have HBE := hid ((HB3.out.trans (HB34.out.mono HB3.out.size)).trans (HBB.out.mono (HB3.out.trans (HB34.out.mono HB3.out.size)).size))
        clear hbe
        go_wp2_with (go_at_call 11; refine HSM.out.mono ?_; rintro e w5 ⟨rfl, hb5⟩; have HB5 := hid (HBE.out.trans (hb5.mono HBE.out.size)); clear hb5)
        go_ret
        exact ⟨rfl, HB5.out⟩
    · have HGE := hid hge
      have hTU0 : TuSt A3 A3.heap.size g lcb tk ks Vb.ls 0 [] (w4.alloc (.cells #[.int .i64 Vb.act, .string Vb.bv, .string tk.x.1, .int .i64 tk.x.2, .slice tk.a (lenF tk.l) tk.c, .slice (some ⟨g, 0, none⟩) lcb lcb, .int .i64 Vb.sym] 36)) :=
        TuSt.below (W := w4) ⟨HB34.out, by rw [List.nil_append, Nat.mul_zero, List.drop_zero]; exact hge, rfl, rfl, by simp, HSEP.out.mono (fun q hq => ⟨hq.1, fun e => hq.2.2 (by rw [e])⟩)⟩ HBB.out
      have HT0 := hid hTU0
      have HGW : Hid (g < w4.heap.size) := hid hge.lt
      clear hTU0 hge
      go_loopw [9] (fun i wr => ∃ (j : Nat) (ds : List Kv), j ≤ lcb ∧ i = .int .i64 j ∧ TuSt A3 A3.heap.size g lcb tk ks Vb.ls j ds wr ∧ Box wr w4.heap.size 36 #[.int .i64 Vb.act, .string Vb.bv, .string tk.x.1, .int .i64 tk.x.2, .slice tk.a (lenF tk.l) tk.c, .slice (some ⟨g, 0, none⟩) lcb lcb, .int .i64 Vb.sym]) (fun i _ => lcb - (intOf i).toNat)
      case atStart => exact ⟨0, [], Nat.zero_le _, rfl, HT0.out, HBOX.out⟩
      case round =>
        obtain ⟨j, ds, hj, rfl, ht, hbx⟩ := hrel
        have HTS := hid ht; have HBX := hid hbx
        have x5 : wr.cell? ⟨w4.heap.size, 5, none⟩ = some (.slice (some ⟨g, 0, none⟩) lcb lcb) := hbx.c 5
        by_cases hlt : j < lcb
        · obtain ⟨k1, k2, hd⟩ : ∃ k1 k2, ks.drop (2 * j) = k1 :: k2 :: ks.drop (2 * (j + 1)) := ⟨ks[2 * j]'(by have := HKL.out; omega), ks[2 * j + 1]'(by have := HKL.out; omega), by
            rw [List.drop_eq_getElem_cons (by have := HKL.out; omega), List.drop_eq_getElem_cons (by have := HKL.out; omega)]; rfl⟩
          have hge := ht.row
          have HNX := hid (tu_step ht hgb hlt HNB.out HKS.out hd).drew
          rw [hd] at hge
          have p0 : wr.cell? ⟨g, j * 6, none⟩ = some (.string k1.x.1) := hge.at (mid_cell _ _ _ _ j 0 ht.len)
          have p1 : wr.cell? ⟨g, j * 6 + 1, none⟩ = some (.int .i64 k1.x.2) := hge.at (mid_cell _ _ _ _ j 1 ht.len)
          have p2 : wr.cell? ⟨g, j * 6 + 2, none⟩ = some (.slice k1.a (lenF k1.l) k1.c) := hge.at (mid_cell _ _ _ _ j 2 ht.len)
          have p3 : wr.cell? ⟨g, j * 6 + 3, none⟩ = some (.string k2.x.1) := hge.at (mid_cell _ _ _ _ j 3 ht.len)
          have p4 : wr.cell? ⟨g, j * 6 + 4, none⟩ = some (.int .i64 k2.x.2) := hge.at (mid_cell _ _ _ _ j 4 ht.len)
          have p5 : wr.cell? ⟨g, j * 6 + 5, none⟩ = some (.slice k2.a (lenF k2.l) k2.c) := hge.at (mid_cell _ _ _ _ j 5 ht.len)
          obtain ⟨⟨x1n, x1s⟩, l1, a1, c1⟩ := k1
          obtain ⟨⟨x2n, x2s⟩, l2, a2, c2⟩ := k2
          dsimp only at p0 p1 p2 p3 p4 p5
          have q0 : wr.drew.cell? ⟨g, j * 6, none⟩ = _ := p0
          have q1 : wr.drew.cell? ⟨g, j * 6 + 1, none⟩ = _ := p1
          have q2 : wr.drew.cell? ⟨g, j * 6 + 2, none⟩ = _ := p2
          have q3 : wr.drew.cell? ⟨g, j * 6 + 3, none⟩ = _ := p3
          have q4 : wr.drew.cell? ⟨g, j * 6 + 4, none⟩ = _ := p4
          have q5 : wr.drew.cell? ⟨g, j * 6 + 5, none⟩ = _ := p5
          have x6 : wr.drew.cell? ⟨w4.heap.size, 5, none⟩ = _ := x5
          have e0 := hge.frozen (j * 6); have e1 := hge.frozen (j * 6 + 1); have e2 := hge.frozen (j * 6 + 2); have e3 := hge.frozen (j * 6 + 3); have e4 := hge.frozen (j * 6 + 4); have e5 := hge.frozen (j * 6 + 5)
          have f0 : wr.drew.frozen? ⟨g, j * 6, none⟩ = false := e0
          have f1 : wr.drew.frozen? ⟨g, j * 6 + 1, none⟩ = false := e1
          have f2 : wr.drew.frozen? ⟨g, j * 6 + 2, none⟩ = false := e2
          have f3 : wr.drew.frozen? ⟨g, j * 6 + 3, none⟩ = false := e3
          have f4 : wr.drew.frozen? ⟨g, j * 6 + 4, none⟩ = false := e4
          have f5 : wr.drew.frozen? ⟨g, j * 6 + 5, none⟩ = false := e5
          have hk0 : (0 : Int) ≤ (j : Int) := by omega
          have hkn : (j : Int) < (lcb : Int) := by omega
          have HBX2 : Hid (Box (set6 wr g (j * 6) ⟨(x2n, x2s), l2, a2, c2⟩ ⟨(x1n, x1s), l1, a1, c1⟩) w4.heap.size 36 #[.int .i64 Vb.act, .string Vb.bv, .string tk.x.1, .int .i64 tk.x.2, .slice tk.a (lenF tk.l) tk.c, .slice (some ⟨g, 0, none⟩) lcb lcb, .int .i64 Vb.sym]) := hid ((set6_far (by have := HGW.out; omega) _ _ _).trans hbx)
          have HBX3 := hid HBX2.out.drew
          clear ht hbx hge hd HT0
          go_upto_region 10 with fail
          go_still_tail 16, (by kernel_rfl)
          go_wp2_with fail
          go_roundw
          case rel => exact ⟨j + 1, ds ++ [(⟨(x2n, x2s), l2, a2, c2⟩ : Kv), ⟨(x1n, x1s), l1, a1, c1⟩], by omega, by go_num, HNX.out, HBX3.out⟩
          case measure => simp [intOf]; omega
        · have e1 : j = lcb := by omega
          subst e1
          have hA := hid ((ht.low.block _ HBA.out.lt).trans HBA.out)
          have a0 := Box.c hA.out 0; have a1 := Box.c hA.out 1; have a2 := Box.c hA.out 2; have a3 := Box.c hA.out 3; have a4 := Box.c hA.out 4; have a5 := Box.c hA.out 5; have a6 := Box.c hA.out 6
          have b0 := hbx.c 0; have b1 := hbx.c 1; have b2 := hbx.c 2; have b3 := hbx.c 3; have b4 := hbx.c 4; have b5 := hbx.c 5; have b6 := hbx.c 6
          have hend := tu_end ht HNB.out rfl HKL.out HTK.out
          rw [HTU.out] at hend
          have HSM := hid (same_true Va _ _ _ (HOA2.out.below ht.low) hend (by rw [← HTU.out]; show (Vb.ls.map swapP).length ≤ _; rw [List.length_map, HNB.out]; exact hlen))
          have HBE := hid (HB3.out.trans (ht.low.mono HB3.out.size))
          clear ht hbx hend
          unfold wayC at *
          go_wp2_with (go_at_call 11; refine HSM.out.mono ?_; rintro e w5 ⟨rfl, hb5⟩; have HB5 := hid (HBE.out.trans (hb5.mono HBE.out.size)); clear hb5)
          go_ret
          exact ⟨rfl, HB5.out⟩
end Go.Proofs.Ytfnfbljijkjkjaa
