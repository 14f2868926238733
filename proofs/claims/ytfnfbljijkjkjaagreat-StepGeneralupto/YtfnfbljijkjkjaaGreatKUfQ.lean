import Derived.Test.YtfnfbljijkjkjaaGreatKUfP
/- look of the program, where the terms lie in a part of the world. -/
namespace Go.Proofs.YtfnfbljijkjkjaaGreat
open Go.RowKit Go.Deep

/-- The one world's cells are the other's. -/
def SubW (wt w : World) : Prop := ∀ p v, wt.cell? p = some v → w.cell? p = some v
theorem SubW.below {wt w w' : World} (h : SubW wt w) (hb : Below w.heap.size w w') : SubW wt w' := fun p v hv => below_cell hb _ _ (h p v hv)
theorem sub_off (S : Nat → Obj → Bool) (w : World) : SubW (offW S w) w := fun _ _ hc => (off_cell hc).elim fun _ h => h.2.2
theorem kid_kept {w w' : World} {F : Fo} {b o k : Nat} {x : ByteArray × Int} {a : Option Addr} {c : Nat} {l : Fo} (h : Kid w F b o k x a c l) (hs : SubW w w') : Kid w' F b o k x a c l := ⟨hs _ _ h.name, hs _ _ h.sym, hs _ _ h.list, h.at_.kept hs, h.split, h.less⟩
set_option maxRecDepth 100000 in
set_option maxHeartbeats 2000000 in
theorem ofVarS_any (nm : ByteArray) (t : Tn) (a : Option Addr) (c : Nat) (w0 w : World) (hT0 : TmAt w0 t.1 a c t.2) (hw : SubW w0 w) (hM : nodesF t.2 ≤ 1048576) :
    Calls Tryz.prog 43 #[.string nm, .agg #[.string t.1.1, .int .i64 t.1.2, .slice a (lenF t.2) c]] w fun e w' => (∃ v, e = .returned v ∧ WayAt w0 v (ofVarP nm t)) ∧ Below w.heap.size w w' := by
  have hT := hT0.kept hw
  obtain ⟨⟨xn, xs⟩, l⟩ := t
  obtain ⟨b1, b2, hb0⟩ := two_new w #[.string xn, .int .i64 xs, .slice a (lenF l) c] 26 zWay 41
  have HT := hid hT0
  have HC := hid fun (W : World) (hW : Below w.heap.size w W) => has_any (xn, xs) l a c nm W (hT.below hW) (by dsimp only at hM; omega)
  have HS := hid fun (W : World) => setTo_any nm (xn, xs) a (lenF l) c W
  obtain ⟨hv, hhv⟩ : ∃ hv, hasT nm (xn, xs) l = hv := ⟨_, rfl⟩
  unfold ofVarP
  dsimp only at *
  rw [hhv] at HC ⊢
  have HX := hid b1; have HY := hid b2; have HB0 := hid hb0
  clear hT hT0 hw b1 b2 hb0 hhv
  cases hv
  · go_enter Tryz.func43, Tryz.ntmps43
    go_wp2_with (first
      | (go_at_call 69; refine (HC.out _ HB0.out).mono ?_; rintro e w1 ⟨rfl, hb1⟩; have HB1 := hid (HB0.out.trans (hb1.mono HB0.out.size)); have X1 := HX.out.below hb1; have Y1 := HY.out.below hb1; have HY1 := hid Y1; have z0 := X1.c 0; have z1 := X1.c 1; have z2 := X1.c 2; clear hb1 X1 Y1)
      | (go_at_call 68; refine (HS.out _).mono ?_; rintro e w2 ⟨rfl, hb2⟩; have HB2 := hid (HB1.out.trans (hb2.mono HB1.out.size)); have Y2 := HY1.out.below hb2; have HY2 := hid Y2; have r0 := Y2.c 0; have r1 := Y2.c 1; have r2 := Y2.c 2; have r3 := Y2.c 3; have r4 := Y2.c 4; have r5 := Y2.c 5; have r6 := Y2.c 6; have g0 := Y2.f 0; have g1 := Y2.f 1; have g2 := Y2.f 2; have g3 := Y2.f 3; have g4 := Y2.f 4; have g5 := Y2.f 5; have g6 := Y2.f 6; clear hb2 Y2; unfold wayC))
    refine bodyPost_ret (results_cell_row rfl _ _ (w.heap.size + 1) 41 (wayC 3 nm (xn, xs) a (lenF l) c none 0 0 0) (0, 0) _ rfl (box7_all HY2.out _ _ _ _ _ _ _) Tryz.underlying41 rfl Tryz.size41) rfl ?_
    have hB := sets7_below (B := w.heap.size + 1) HB2.out (by omega) (.int .i64 3) (.string nm) (.string xn) (.int .i64 xs) (.slice a (lenF l) c) (.slice none 0 0) (.int .i64 0)
    exact ⟨⟨_, rfl, ⟨a, c, none, 0, rfl, HT.out, fun _ => ⟨rfl, rfl⟩⟩⟩, hB⟩
  · go_enter Tryz.func43, Tryz.ntmps43
    go_wp2_with (first
      | (go_at_call 69; refine (HC.out _ HB0.out).mono ?_; rintro e w1 ⟨rfl, hb1⟩; have HB1 := hid (HB0.out.trans (hb1.mono HB0.out.size)); have Y1 := HY.out.below hb1; have HY1 := hid Y1; have r0 := Y1.c 0; have r1 := Y1.c 1; have r2 := Y1.c 2; have r3 := Y1.c 3; have r4 := Y1.c 4; have r5 := Y1.c 5; have r6 := Y1.c 6; have g0 := Y1.f 0; have g1 := Y1.f 1; have g2 := Y1.f 2; have g3 := Y1.f 3; have g4 := Y1.f 4; have g5 := Y1.f 5; have g6 := Y1.f 6; clear hb1 Y1))
    refine bodyPost_ret (results_cell_row rfl _ _ (w.heap.size + 1) 41 (wayC 2 noS (noS, 0) none 0 0 none 0 0 0) (0, 0) _ rfl (box7_all HY1.out _ _ _ _ _ _ _) Tryz.underlying41 rfl Tryz.size41) rfl ?_
    have hB := sets7_below (B := w.heap.size + 1) HB1.out (by omega) (.int .i64 2) (.string noS) (.string noS) (.int .i64 0) (.slice none 0 0) (.slice none 0 0) (.int .i64 0)
    exact ⟨⟨_, rfl, ⟨none, 0, none, 0, rfl, zT_at _, fun _ => ⟨rfl, rfl⟩⟩⟩, hB⟩

set_option maxRecDepth 100000 in
set_option maxHeartbeats 2000000 in
theorem ofVarsS_any (s t : Tn) (a b : Option Addr) (c d : Nat) (w0 w : World) (hS0 : TmAt w0 s.1 a c s.2) (hT0 : TmAt w0 t.1 b d t.2) (hw : SubW w0 w) :
    Calls Tryz.prog 42 #[.agg #[.string s.1.1, .int .i64 s.1.2, .slice a (lenF s.2) c], .agg #[.string t.1.1, .int .i64 t.1.2, .slice b (lenF t.2) d]] w fun e w' => (∃ v, e = .returned v ∧ WayAt w0 v (ofVarsP s t)) ∧ Below w.heap.size w w' := by
  have hS := hS0.kept hw
  have hT := hT0.kept hw
  obtain ⟨⟨xn, xs⟩, l⟩ := s
  obtain ⟨⟨yn, ys⟩, m⟩ := t
  obtain ⟨b1, b2, b3, hb0⟩ := three_new w #[.string xn, .int .i64 xs, .slice a (lenF l) c] 26 #[.string yn, .int .i64 ys, .slice b (lenF m) d] 26 zWay 41
  have HS := hid hS0; have HT := hid hT0
  have HC := hid fun (W : World) (hW : Below w.heap.size w W) => compare_all (nodesF l) (xn, xs) (yn, ys) a b c d l m W (Nat.le_refl _) (hS.below hW) (hT.below hW)
  obtain ⟨cv, hcv⟩ : ∃ cv, cmp1 (xn, xs) (yn, ys) (lenF l) (lenF m) (cmpF l m) = cv := ⟨_, rfl⟩
  have hcv' : cmpN ((xn, xs), l) ((yn, ys), m) = cv := hcv
  have HA := hid fun (W : World) => setTo_any xn (yn, ys) b (lenF m) d W
  have HD := hid fun (W : World) => setTo_any yn (xn, xs) a (lenF l) c W
  unfold ofVarsP
  rw [hcv']
  rw [hcv] at HC
  have HX := hid b1; have HY := hid b2; have HZ := hid b3; have HB0 := hid hb0
  clear hS hT hS0 hT0 hw b1 b2 b3 hb0 hcv hcv'
  dsimp only at *
  by_cases h0 : cv = 0
  · subst h0
    rw [if_pos rfl]
    go_enter Tryz.func42, Tryz.ntmps42
    go_wp2_with (first
      | (go_at_call 40; refine (HC.out _ HB0.out).mono ?_; rintro e w1 ⟨rfl, hg1⟩; have hb1 := hg1.below; have HB1 := hid (HB0.out.trans (hb1.mono HB0.out.size)); have Y1 := HZ.out.below hb1; have HY1 := hid Y1; have r0 := Y1.c 0; have r1 := Y1.c 1; have r2 := Y1.c 2; have r3 := Y1.c 3; have r4 := Y1.c 4; have r5 := Y1.c 5; have r6 := Y1.c 6; have g0 := Y1.f 0; have g1 := Y1.f 1; have g2 := Y1.f 2; have g3 := Y1.f 3; have g4 := Y1.f 4; have g5 := Y1.f 5; have g6 := Y1.f 6; clear hb1 Y1 hg1))
    refine bodyPost_ret (results_cell_row rfl _ _ (w.heap.size + 1 + 1) 41 (wayC 1 noS (noS, 0) none 0 0 none 0 0 0) (0, 0) _ rfl (box7_all HY1.out _ _ _ _ _ _ _) Tryz.underlying41 rfl Tryz.size41) rfl ?_
    have hB := sets7_below (B := w.heap.size + 1 + 1) HB1.out (by omega) (.int .i64 1) (.string noS) (.string noS) (.int .i64 0) (.slice none 0 0) (.slice none 0 0) (.int .i64 0)
    exact ⟨⟨_, rfl, ⟨none, 0, none, 0, rfl, zT_at _, fun _ => ⟨rfl, rfl⟩⟩⟩, hB⟩
  · rw [if_neg h0]
    have h0' : (cv == 0) = false := by simp [h0]
    by_cases h1 : cv = 1
    · subst h1
      rw [if_pos rfl]
      go_enter Tryz.func42, Tryz.ntmps42
      go_wp2_with (first
        | (go_at_call 40; refine (HC.out _ HB0.out).mono ?_; rintro e w1 ⟨rfl, hg1⟩; have hb1 := hg1.below; have HB1 := hid (HB0.out.trans (hb1.mono HB0.out.size)); have X1 := HX.out.below hb1; have Z1 := HY.out.below hb1; have HY1 := hid (HZ.out.below hb1); have z0 := X1.c 0; have z1 := X1.c 1; have z2 := X1.c 2; have q0 := Z1.c 0; have q1 := Z1.c 1; have q2 := Z1.c 2; clear hb1 X1 Z1 hg1)
        | (go_at_call 68; refine (HA.out _).mono ?_; rintro e w2 ⟨rfl, hb2⟩; have HB2 := hid (HB1.out.trans (hb2.mono HB1.out.size)); have Y2 := HY1.out.below hb2; have HY2 := hid Y2; have r0 := Y2.c 0; have r1 := Y2.c 1; have r2 := Y2.c 2; have r3 := Y2.c 3; have r4 := Y2.c 4; have r5 := Y2.c 5; have r6 := Y2.c 6; have g0 := Y2.f 0; have g1 := Y2.f 1; have g2 := Y2.f 2; have g3 := Y2.f 3; have g4 := Y2.f 4; have g5 := Y2.f 5; have g6 := Y2.f 6; clear hb2 Y2; unfold wayC))
      refine bodyPost_ret (results_cell_row rfl _ _ (w.heap.size + 1 + 1) 41 (wayC 3 xn (yn, ys) b (lenF m) d none 0 0 0) (0, 0) _ rfl (box7_all HY2.out _ _ _ _ _ _ _) Tryz.underlying41 rfl Tryz.size41) rfl ?_
      have hB := sets7_below (B := w.heap.size + 1 + 1) HB2.out (by omega) (.int .i64 3) (.string xn) (.string yn) (.int .i64 ys) (.slice b (lenF m) d) (.slice none 0 0) (.int .i64 0)
      exact ⟨⟨_, rfl, ⟨b, d, none, 0, rfl, HT.out, fun _ => ⟨rfl, rfl⟩⟩⟩, hB⟩
    · rw [if_neg h1]
      have h1' : (cv == 1) = false := by simp [h1]
      go_enter Tryz.func42, Tryz.ntmps42
      go_wp2_with (first
        | (go_at_call 40; refine (HC.out _ HB0.out).mono ?_; rintro e w1 ⟨rfl, hg1⟩; have hb1 := hg1.below; have HB1 := hid (HB0.out.trans (hb1.mono HB0.out.size)); have X1 := HX.out.below hb1; have Z1 := HY.out.below hb1; have HY1 := hid (HZ.out.below hb1); have z0 := X1.c 0; have z1 := X1.c 1; have z2 := X1.c 2; have q0 := Z1.c 0; have q1 := Z1.c 1; have q2 := Z1.c 2; clear hb1 X1 Z1 hg1)
        | (go_at_call 68; refine (HD.out _).mono ?_; rintro e w2 ⟨rfl, hb2⟩; have HB2 := hid (HB1.out.trans (hb2.mono HB1.out.size)); have Y2 := HY1.out.below hb2; have HY2 := hid Y2; have r0 := Y2.c 0; have r1 := Y2.c 1; have r2 := Y2.c 2; have r3 := Y2.c 3; have r4 := Y2.c 4; have r5 := Y2.c 5; have r6 := Y2.c 6; have g0 := Y2.f 0; have g1 := Y2.f 1; have g2 := Y2.f 2; have g3 := Y2.f 3; have g4 := Y2.f 4; have g5 := Y2.f 5; have g6 := Y2.f 6; clear hb2 Y2; unfold wayC))
      refine bodyPost_ret (results_cell_row rfl _ _ (w.heap.size + 1 + 1) 41 (wayC 3 yn (xn, xs) a (lenF l) c none 0 0 0) (0, 0) _ rfl (box7_all HY2.out _ _ _ _ _ _ _) Tryz.underlying41 rfl Tryz.size41) rfl ?_
      have hB := sets7_below (B := w.heap.size + 1 + 1) HB2.out (by omega) (.int .i64 3) (.string yn) (.string xn) (.int .i64 xs) (.slice a (lenF l) c) (.slice none 0 0) (.int .i64 0)
      exact ⟨⟨_, rfl, ⟨a, c, none, 0, rfl, HS.out, fun _ => ⟨rfl, rfl⟩⟩⟩, hB⟩

set_option maxRecDepth 100000 in
set_option maxHeartbeats 4000000 in
theorem sideBySideS_any (x y : ByteArray × Int) (l m : Fo) (a b : Option Addr) (c d : Nat) (wt w : World) (hS0 : TmAt wt x a c l) (hT0 : TmAt wt y b d m) (hw : SubW wt w) (hM : nodesF l ≤ 1048576) :
    Calls Tryz.prog 45 #[.slice a (lenF l) c, .slice b (lenF m) d] w fun e w' => (∃ v, e = .returned v ∧ LookAt w.heap.size wt w' v (sideP l m)) ∧ Below w.heap.size w w' := by
  have hS := hS0.kept hw
  have hT := hT0.kept hw
  obtain ⟨i0, hi, hz0, hz1, hz2⟩ := info_parts Tryz.info28
  have HS := hid hS0; have HT := hid hT0; have HW := hid hw
  have hln := len_nodes l
  have hB0 := hid (alloc_below0 w (.cells zWay 41))
  have HZ := hid (Box.new w 41 zWay)
  have hsl := hS.sizes.len; have hsc := hS.sizes.cap; have htl := hT.sizes.len; have htc := hT.sizes.cap
  have hmax : maxLen = 9223372036854775807 := rfl
  clear hS hT hS0 hT0 hw
  unfold sideP
  by_cases hne : lenF l = lenF m
  · rw [if_pos hne]
    have hnb : ((lenF l : Int) == (lenF m : Int)) = true := by simp [hne]
    have HNE := hid hne
    clear hne
    go_enter Tryz.func45, Tryz.ntmps45
    go_wp2_with (at_make; refine wpList_make_full _ rfl _ _ 39 rfl w.heap.size 28 i0 (.agg #[.string ⟨#[]⟩, .int .i64 0, .slice none 0 0, .string ⟨#[]⟩, .int .i64 0, .slice none 0 0]) 6 Tryz.underlying39 hi hz0 hz1 .i64 .i64 _ _ (lenF l) rfl rfl rfl rfl (by rw [hz2]; omega) (by omega) (by simp) ?_; intro w0 hown0 hgrow0)
    have E0 : Hid (EqRow w0 (w.heap.size + 1) (lenF l) []) := by
      rcases hown0.2 with ⟨hv, _⟩ | ⟨g', cap', cur, hv, _, hh, _, _, hcs, _⟩
      · cases hv
      · cases hv
        rw [World.size_alloc] at hh
        exact ⟨cur, hh, hcs, fun i u hu => by simp [kvCells] at hu⟩
    have B0 : Hid (Below w.heap.size w w0) := hid (hB0.out.grown hgrow0 (by simp) (fun k e => by cases e))
    have Z0 : Hid (Box w0 w.heap.size 41 zWay) := hid ((hgrow0.block _ (by simp) (by simp)).trans HZ.out)
    clear hown0 hgrow0 hB0 HZ
    go_loopw [18] (fun i wr => ∃ (j : Nat) (ks : List Kv), j ≤ lenF l ∧ i = .int .i64 j ∧ ks.length = 2 * j ∧ Below w.heap.size w wr ∧ Box wr w.heap.size 41 zWay ∧ EqRow wr (w.heap.size + 1) (lenF l) ks ∧ ks.map Kv.tn = flatL (((kidsL l).zip (kidsL m)).take j) ∧ ∀ k ∈ ks, TmAt wt k.x k.a k.c k.l) (fun i _ => lenF l - (intOf i).toNat)
    case atStart => exact ⟨0, [], Nat.zero_le _, rfl, rfl, B0.out, Z0.out, E0.out, by simp [flatL], by simp⟩
    case round =>
      obtain ⟨j, ks, hj, rfl, hkl, hb, hz, he, hks, htm⟩ := hrel
      have HB := hid hb; have HZ := hid hz; have HE := hid he; have HKS := hid hks; have HTM := hid htm; have HKL := hid hkl
      clear E0 B0 Z0 hks htm hkl
      by_cases hlt : j < lenF l
      · have hlm : j < lenF m := by have := HNE.out; omega
        obtain ⟨b1, o1, rfl, hk1⟩ := HS.out.args.get (by omega)
        obtain ⟨b2, o2, rfl, hk2⟩ := HT.out.args.get (by omega)
        obtain ⟨x1, a1, c1, l1, kd0⟩ := hk1.kid (k := j) hlt
        obtain ⟨x2, a2, c2, l2, ke0⟩ := hk2.kid (k := j) hlm
        have kd := kid_kept kd0 (HW.out.below hb)
        have ke := kid_kept ke0 (HW.out.below hb)
        have p0 : wr.drew.cell? ⟨b1, o1 + j * 3, none⟩ = _ := kd.name
        have p1 : wr.drew.cell? ⟨b1, o1 + j * 3 + 1, none⟩ = _ := kd.sym
        have p2 : wr.drew.cell? ⟨b1, o1 + j * 3 + 2, none⟩ = _ := kd.list
        have q0 : wr.drew.cell? ⟨b2, o2 + j * 3, none⟩ = _ := ke.name
        have q1 : wr.drew.cell? ⟨b2, o2 + j * 3 + 1, none⟩ = _ := ke.sym
        have q2 : wr.drew.cell? ⟨b2, o2 + j * 3 + 2, none⟩ = _ := ke.list
        obtain ⟨u0, v0⟩ := he.cell (i := j * 6) (by omega)
        obtain ⟨u1, v1⟩ := he.cell (i := j * 6 + 1) (by omega)
        obtain ⟨u2, v2⟩ := he.cell (i := j * 6 + 2) (by omega)
        obtain ⟨u3, v3⟩ := he.cell (i := j * 6 + 3) (by omega)
        obtain ⟨u4, v4⟩ := he.cell (i := j * 6 + 4) (by omega)
        obtain ⟨u5, v5⟩ := he.cell (i := j * 6 + 5) (by omega)
        have w0 : wr.drew.cell? ⟨w.heap.size + 1, j * 6, none⟩ = _ := v0
        have w1 : wr.drew.cell? ⟨w.heap.size + 1, j * 6 + 1, none⟩ = _ := v1
        have w2 : wr.drew.cell? ⟨w.heap.size + 1, j * 6 + 2, none⟩ = _ := v2
        have w3 : wr.drew.cell? ⟨w.heap.size + 1, j * 6 + 3, none⟩ = _ := v3
        have w4 : wr.drew.cell? ⟨w.heap.size + 1, j * 6 + 4, none⟩ = _ := v4
        have w5 : wr.drew.cell? ⟨w.heap.size + 1, j * 6 + 5, none⟩ = _ := v5
        have f0 : wr.drew.frozen? ⟨w.heap.size + 1, j * 6, none⟩ = false := he.frozen _
        have f1 : wr.drew.frozen? ⟨w.heap.size + 1, j * 6 + 1, none⟩ = false := he.frozen _
        have f2 : wr.drew.frozen? ⟨w.heap.size + 1, j * 6 + 2, none⟩ = false := he.frozen _
        have f3 : wr.drew.frozen? ⟨w.heap.size + 1, j * 6 + 3, none⟩ = false := he.frozen _
        have f4 : wr.drew.frozen? ⟨w.heap.size + 1, j * 6 + 4, none⟩ = false := he.frozen _
        have f5 : wr.drew.frozen? ⟨w.heap.size + 1, j * 6 + 5, none⟩ = false := he.frozen _
        have hk0 : (0 : Int) ≤ (j : Int) := by omega
        have hkn : (j : Int) < (lenF l : Int) := by omega
        have hkm : (j : Int) < (lenF m : Int) := by omega
        have e0 : wr.frozen? ⟨w.heap.size + 1, j * 6, none⟩ = false := he.frozen _
        have e1 : wr.frozen? ⟨w.heap.size + 1, j * 6 + 1, none⟩ = false := he.frozen _
        have e2 : wr.frozen? ⟨w.heap.size + 1, j * 6 + 2, none⟩ = false := he.frozen _
        have e3 : wr.frozen? ⟨w.heap.size + 1, j * 6 + 3, none⟩ = false := he.frozen _
        have e4 : wr.frozen? ⟨w.heap.size + 1, j * 6 + 4, none⟩ = false := he.frozen _
        have e5 : wr.frozen? ⟨w.heap.size + 1, j * 6 + 5, none⟩ = false := he.frozen _
        have NB : Hid (Below w.heap.size w (set6 wr (w.heap.size + 1) (j * 6) ⟨x1, l1, a1, c1⟩ ⟨x2, l2, a2, c2⟩).drew) := hid (set6_below hb (by omega) _ _ _).drew
        have nz : Box (set6 wr (w.heap.size + 1) (j * 6) ⟨x1, l1, a1, c1⟩ ⟨x2, l2, a2, c2⟩) w.heap.size 41 zWay := (set6_far (by omega) _ _ _).trans hz
        have NZ := hid nz.drew
        have NE := hid (EqRow.drew (he.push (o := j * 6) (by have := HKL.out; omega) (by omega) ⟨x1, l1, a1, c1⟩ ⟨x2, l2, a2, c2⟩))
        clear nz
        have NL : Hid ((ks ++ [(⟨x1, l1, a1, c1⟩ : Kv), ⟨x2, l2, a2, c2⟩]).length = 2 * (j + 1)) := hid (by rw [List.length_append, HKL.out]; rfl)
        have NK : Hid ((ks ++ [(⟨x1, l1, a1, c1⟩ : Kv), ⟨x2, l2, a2, c2⟩]).map Kv.tn = flatL (((kidsL l).zip (kidsL m)).take (j + 1))) := hid (by
          rw [List.map_append, HKS.out, zip_take (kid_at kd) (kid_at ke), flat_snoc]; rfl)
        have NT : Hid (∀ k ∈ ks ++ [(⟨x1, l1, a1, c1⟩ : Kv), ⟨x2, l2, a2, c2⟩], TmAt wt k.x k.a k.c k.l) := hid (fun k hk => by
          rcases List.mem_append.1 hk with hk | hk
          · exact HTM.out k hk
          · simp only [List.mem_cons, List.not_mem_nil, or_false] at hk
            rcases hk with rfl | rfl
            · exact kd0.at_
            · exact ke0.at_)
        clear hb hz he kd ke kd0 ke0 hk1 hk2
        go_upto_region 7 with fail
        go_region
        all_goals
          go_wp2_with fail
          go_roundw
          case rel =>
            exact ⟨j + 1, ks ++ [(⟨x1, l1, a1, c1⟩ : Kv), ⟨x2, l2, a2, c2⟩], by omega, by go_num, NL.out, NB.out, NZ.out, NE.out, NK.out, NT.out⟩
          case measure => simp [intOf]; omega
      · have e1 : j = lenF l := by omega
        have r0 := hz.c 0; have r1 := hz.c 1; have r2 := hz.c 2; have r3 := hz.c 3; have r4 := hz.c 4; have r5 := hz.c 5; have r6 := hz.c 6
        have g0 := hz.f 0; have g1 := hz.f 1; have g2 := hz.f 2; have g3 := hz.f 3; have g4 := hz.f 4; have g5 := hz.f 5; have g6 := hz.f 6
        have hzl : ((kidsL l).zip (kidsL m)).length = lenF l := by rw [List.length_zip, kids_len, kids_len, ← HNE.out]; simp
        have HZL := hid hzl
        have hfull : ks.map Kv.tn = flatL ((kidsL l).zip (kidsL m)) := by rw [HKS.out, List.take_of_length_le (by omega)]
        have HF := hid hfull
        have HJ := hid hlt
        have HE1 := hid e1
        clear hb hz he hzl hfull e1
        go_wp2_with fail
        refine bodyPost_ret (results_cell_row rfl _ _ w.heap.size 41 (wayC 4 noS (noS, 0) none 0 0 (some ⟨w.heap.size + 1, 0, none⟩) (lenF l) (lenF l) 0) (0, 0) _ rfl (box7_all HZ.out _ _ _ _ _ _ _) Tryz.underlying41 rfl Tryz.size41) rfl ?_
        have hB := sets7_below (B := w.heap.size) HB.out (by omega) (.int .i64 4) (.string noS) (.string noS) (.int .i64 0) (.slice none 0 0) (.slice (some ⟨w.heap.size + 1, 0, none⟩) (lenF l) (lenF l)) (.int .i64 0)
        have hE := HE.out.keep (sets7_far (W := wr) (B := w.heap.size) (q := w.heap.size + 1) (by omega) (.int .i64 4) (.string noS) (.string noS) (.int .i64 0) (.slice none 0 0) (.slice (some ⟨w.heap.size + 1, 0, none⟩) (lenF l) (lenF l)) (.int .i64 0))
        refine ⟨⟨_, rfl, ⟨⟨(noS, 0), .nil, none, 0⟩, ks, some ⟨w.heap.size + 1, 0, none⟩, lenF l, ?_, rfl, zT_at _, HF.out, HTM.out, .inr ⟨w.heap.size + 1, rfl, by omega, by rw [HZL.out], by rw [HZL.out]; exact hE⟩⟩⟩, hB⟩
        rw [HZL.out]; rfl
  · rw [if_neg hne]
    have hnb : ((lenF l : Int) == (lenF m : Int)) = false := by simp; omega
    clear hne
    go_enter Tryz.func45, Tryz.ntmps45
    go_wp2_with fail
    refine bodyPost_ret (results_cell_row rfl _ _ w.heap.size 41 (wayC 2 noS (noS, 0) none 0 0 none 0 0 0) (0, 0) _ rfl (Box.new w 41 _) Tryz.underlying41 rfl Tryz.size41) rfl ?_
    exact ⟨⟨_, rfl, WayAt.look (W := actW 2) ⟨none, 0, none, 0, rfl, zT_at _, fun _ => ⟨rfl, rfl⟩⟩ rfl⟩, alloc_below0 w _⟩

set_option maxRecDepth 100000 in
set_option maxHeartbeats 4000000 in
theorem lookS_any (S : Option Addr) (n cap : Nat) (sg : List Sym) (s t : Tn) (a b : Option Addr) (c d : Nat) (wt w : World) (hG : SigAt w S n sg) (hS : TmAt wt s.1 a c s.2) (hT : TmAt wt t.1 b d t.2) (hw : SubW wt w) (hM : nodesF s.2 ≤ 1048576) (hN : nodesF t.2 ≤ 1048576) :
    Calls Tryz.prog 23 #[.slice S n cap, .agg #[.string s.1.1, .int .i64 s.1.2, .slice a (lenF s.2) c, .string t.1.1, .int .i64 t.1.2, .slice b (lenF t.2) d]] w fun e w' => (∃ v, e = .returned v ∧ LookAt w.heap.size wt w' v (lookP sg s t)) ∧ Below w.heap.size w w' := by
  obtain ⟨⟨xn, xs⟩, l⟩ := s
  obtain ⟨⟨yn, ys⟩, m⟩ := t
  dsimp only at *
  obtain ⟨b1, b2, hb0⟩ := two_new w #[.string xn, .int .i64 xs, .slice a (lenF l) c, .string yn, .int .i64 ys, .slice b (lenF m) d] 28 zWay 41
  have HG := hid hG; have HS := hid hS; have HT := hid hT; have HW := hid hw
  have HR := hid b2; have HB0 := hid hb0
  have hsz : Hid (((w.alloc (.cells #[.string xn, .int .i64 xs, .slice a (lenF l) c, .string yn, .int .i64 ys, .slice b (lenF m) d] 28)).alloc (.cells zWay 41)).heap.size = w.heap.size + 2) := hid (by simp)
  have c0 : ((w.alloc (.cells #[.string xn, .int .i64 xs, .slice a (lenF l) c, .string yn, .int .i64 ys, .slice b (lenF m) d] 28)).alloc (.cells zWay 41)).cell? ⟨w.heap.size, 0, none⟩ = some (.string xn) := b1.c 0
  have c1 : ((w.alloc (.cells #[.string xn, .int .i64 xs, .slice a (lenF l) c, .string yn, .int .i64 ys, .slice b (lenF m) d] 28)).alloc (.cells zWay 41)).cell? ⟨w.heap.size, 1, none⟩ = some (.int .i64 xs) := b1.c 1
  have c2 : ((w.alloc (.cells #[.string xn, .int .i64 xs, .slice a (lenF l) c, .string yn, .int .i64 ys, .slice b (lenF m) d] 28)).alloc (.cells zWay 41)).cell? ⟨w.heap.size, 2, none⟩ = some (.slice a (lenF l) c) := b1.c 2
  have c3 : ((w.alloc (.cells #[.string xn, .int .i64 xs, .slice a (lenF l) c, .string yn, .int .i64 ys, .slice b (lenF m) d] 28)).alloc (.cells zWay 41)).cell? ⟨w.heap.size, 3, none⟩ = some (.string yn) := b1.c 3
  have c4 : ((w.alloc (.cells #[.string xn, .int .i64 xs, .slice a (lenF l) c, .string yn, .int .i64 ys, .slice b (lenF m) d] 28)).alloc (.cells zWay 41)).cell? ⟨w.heap.size, 4, none⟩ = some (.int .i64 ys) := b1.c 4
  have c5 : ((w.alloc (.cells #[.string xn, .int .i64 xs, .slice a (lenF l) c, .string yn, .int .i64 ys, .slice b (lenF m) d] 28)).alloc (.cells zWay 41)).cell? ⟨w.heap.size, 5, none⟩ = some (.slice b (lenF m) d) := b1.c 5
  obtain ⟨V, hV⟩ : ∃ V, lookP sg ((xn, xs), l) ((yn, ys), m) = V := ⟨_, rfl⟩
  rw [hV]
  have HVV := hid hV
  clear hG hS hT hw b1 b2 hb0 hV
  go_enter Tryz.func23, Tryz.ntmps23
  go_upto_region 1 with fail
  go_cut [5, 6] (fun p q W => ∃ B5 B6, p = .pointer (some ⟨B5, 0, none⟩) ∧ q = .pointer (some ⟨B6, 0, none⟩) ∧ LkBox w ((xn, xs), l) ((yn, ys), m) a b c d B5 B6 W)
  case first =>
    go_region
    all_goals (go_wp2_with fail; go_meet)
    all_goals first
      | exact ⟨_, _, rfl, rfl, lk_one HB0.out HR.out hsz.out⟩
      | exact ⟨_, _, rfl, rfl, lk_two HB0.out HR.out hsz.out⟩
  case rest =>
    obtain ⟨B5, B6, rfl, rfl, hk⟩ := hcut
    have HK := hid hk
    have p0 := hk.l.c0; have p1 := hk.l.c1; have p2 := hk.l.c2
    have q0 := hk.r.c0; have q1 := hk.r.c1; have q2 := hk.r.c2
    dsimp only at p0 p1 p2 q0 q1 q2
    have hWW := HW.out.below hk.low
    have H40 := hid (ofVarsS_any ((xn, xs), l) ((yn, ys), m) a b c d wt wc HS.out HT.out hWW)
    have H41 := hid (ofVarS_any xn ((yn, ys), m) b d wt wc HT.out hWW hN)
    have H41' := hid (ofVarS_any yn ((xn, xs), l) a c wt wc HS.out hWW hM)
    have H42 := hid (isFree_any S n cap sg xs wc (HG.out.below hk.low))
    have H43 := hid (sideBySideS_any (xn, xs) (yn, ys) l m a b c d wt wc HS.out HT.out hWW hM)
    clear hk c0 c1 c2 c3 c4 c5 HR HB0 hsz hWW
    dsimp only at *
    cases hx : xn.toList.isEmpty
    · have ex : noName xn = false := hx
      cases hy : yn.toList.isEmpty
      · have ey : noName yn = false := hy
        have HVE : Hid (V = ofVarsP ((xn, xs), l) ((yn, ys), m)) := hid (by rw [← HVV.out]; unfold lookP; simp [ex, ey])
        clear ex ey
        go_wp2_with (first
          | (go_at_call 42; refine (H40.out).mono ?_; rintro e w2 ⟨⟨v, rfl, hv⟩, hb2⟩; have HV := hid (hv.look (base := w.heap.size + 2) (w := w2) (ofVars_none _ _)); have HB2 := hid (HK.out.low.trans (hb2.mono HK.out.low.size)); have Y2 := HK.out.res.below hb2; have HR2 := hid Y2; obtain ⟨tk, ks, la, lc, rfl, hrest⟩ := HV.out.is; have HREST := hid hrest; have r0 := Y2.c 0; have r1 := Y2.c 1; have r2 := Y2.c 2; have r3 := Y2.c 3; have r4 := Y2.c 4; have r5 := Y2.c 5; have r6 := Y2.c 6; have g0 := Y2.f 0; have g1 := Y2.f 1; have g2 := Y2.f 2; have g3 := Y2.f 3; have g4 := Y2.f 4; have g5 := Y2.f 5; have g6 := Y2.f 6; clear hb2 Y2 hrest hv p0 p1 p2 q0 q1 q2; unfold wayC))
        refine bodyPost_ret (results_cell_row rfl _ _ (w.heap.size + 1) 41 (wayC _ _ _ _ _ _ _ _ _ _) (0, 0) _ rfl (box7_all HR2.out _ _ _ _ _ _ _) Tryz.underlying41 rfl Tryz.size41) rfl ?_
        exact look_end HB2.out (by rw [HVE.out]; exact HV.out)
      · have ey : noName yn = true := hy
        have HVE : Hid (V = ofVarP xn ((yn, ys), m)) := hid (by rw [← HVV.out]; unfold lookP; simp [ex, ey])
        clear ex ey
        go_wp2_with (first
          | (go_at_call 43; refine (H41.out).mono ?_; rintro e w2 ⟨⟨v, rfl, hv⟩, hb2⟩; have HV := hid (hv.look (base := w.heap.size + 2) (w := w2) (ofVar_none _ _)); have HB2 := hid (HK.out.low.trans (hb2.mono HK.out.low.size)); have Y2 := HK.out.res.below hb2; have HR2 := hid Y2; obtain ⟨tk, ks, la, lc, rfl, hrest⟩ := HV.out.is; have HREST := hid hrest; have r0 := Y2.c 0; have r1 := Y2.c 1; have r2 := Y2.c 2; have r3 := Y2.c 3; have r4 := Y2.c 4; have r5 := Y2.c 5; have r6 := Y2.c 6; have g0 := Y2.f 0; have g1 := Y2.f 1; have g2 := Y2.f 2; have g3 := Y2.f 3; have g4 := Y2.f 4; have g5 := Y2.f 5; have g6 := Y2.f 6; clear hb2 Y2 hrest hv p0 p1 p2 q0 q1 q2; unfold wayC))
        refine bodyPost_ret (results_cell_row rfl _ _ (w.heap.size + 1) 41 (wayC _ _ _ _ _ _ _ _ _ _) (0, 0) _ rfl (box7_all HR2.out _ _ _ _ _ _ _) Tryz.underlying41 rfl Tryz.size41) rfl ?_
        exact look_end HB2.out (by rw [HVE.out]; exact HV.out)
    · have ex : noName xn = true := hx
      cases hy : yn.toList.isEmpty
      · have ey : noName yn = false := hy
        have HVE : Hid (V = ofVarP yn ((xn, xs), l)) := hid (by rw [← HVV.out]; unfold lookP; simp [ex, ey])
        clear ex ey
        go_wp2_with (first
          | (go_at_call 43; refine (H41'.out).mono ?_; rintro e w2 ⟨⟨v, rfl, hv⟩, hb2⟩; have HV := hid (hv.look (base := w.heap.size + 2) (w := w2) (ofVar_none _ _)); have HB2 := hid (HK.out.low.trans (hb2.mono HK.out.low.size)); have Y2 := HK.out.res.below hb2; have HR2 := hid Y2; obtain ⟨tk, ks, la, lc, rfl, hrest⟩ := HV.out.is; have HREST := hid hrest; have r0 := Y2.c 0; have r1 := Y2.c 1; have r2 := Y2.c 2; have r3 := Y2.c 3; have r4 := Y2.c 4; have r5 := Y2.c 5; have r6 := Y2.c 6; have g0 := Y2.f 0; have g1 := Y2.f 1; have g2 := Y2.f 2; have g3 := Y2.f 3; have g4 := Y2.f 4; have g5 := Y2.f 5; have g6 := Y2.f 6; clear hb2 Y2 hrest hv p0 p1 p2 q0 q1 q2; unfold wayC))
        refine bodyPost_ret (results_cell_row rfl _ _ (w.heap.size + 1) 41 (wayC _ _ _ _ _ _ _ _ _ _) (0, 0) _ rfl (box7_all HR2.out _ _ _ _ _ _ _) Tryz.underlying41 rfl Tryz.size41) rfl ?_
        exact look_end HB2.out (by rw [HVE.out]; exact HV.out)
      · have ey : noName yn = true := hy
        by_cases hsy : xs = ys
        · subst hsy
          have hne : (xs != xs) = false := by simp
          cases hfr : freeB sg xs
          · have HVE : Hid (V = ⟨5, noS, zT, [], xs⟩) := hid (by rw [← HVV.out]; unfold lookP; simp [ex, ey, hfr])
            have HFR := hid hfr
            have Y2 := HK.out.res
            have r0 := Y2.c 0; have r1 := Y2.c 1; have r2 := Y2.c 2; have r3 := Y2.c 3; have r4 := Y2.c 4; have r5 := Y2.c 5; have r6 := Y2.c 6; have g0 := Y2.f 0; have g1 := Y2.f 1; have g2 := Y2.f 2; have g3 := Y2.f 3; have g4 := Y2.f 4; have g5 := Y2.f 5; have g6 := Y2.f 6
            clear ex ey hfr Y2
            go_wp2_with (go_at_call 44; refine H42.out.mono ?_; rintro e w3 ⟨rfl, rfl⟩; rw [HFR.out])
            refine bodyPost_ret (results_cell_row rfl _ _ (w.heap.size + 1) 41 (wayC 5 noS (noS, 0) none 0 0 none 0 0 xs) (0, 0) _ rfl (box7_all HK.out.res _ _ _ _ _ _ _) Tryz.underlying41 rfl Tryz.size41) rfl ?_
            exact look_end HK.out.low (by rw [HVE.out]; exact WayAt.look (W := ⟨5, noS, zT, [], xs⟩) ⟨none, 0, none, 0, rfl, zT_at _, fun _ => ⟨rfl, rfl⟩⟩ rfl)
          · have HVE : Hid (V = sideP l m) := hid (by rw [← HVV.out]; unfold lookP; simp [ex, ey, hfr])
            have HFR := hid hfr
            have HSZ2 : Hid (w.heap.size + 2 ≤ wc.heap.size) := hid (by have := HK.out.l.lt; have := HK.out.far; omega)
            clear ex ey hfr
            go_wp2_with (first
              | (go_at_call 44; refine H42.out.mono ?_; rintro e w3 ⟨rfl, rfl⟩; rw [HFR.out])
              | (go_at_call 45; refine (H43.out).mono ?_; rintro e w2 ⟨⟨v, rfl, hv⟩, hb2⟩; have HV := hid (hv.mono (base' := w.heap.size + 2) HSZ2.out); have HB2 := hid (HK.out.low.trans (hb2.mono HK.out.low.size)); have Y2 := HK.out.res.below hb2; have HR2 := hid Y2; obtain ⟨tk, ks, la, lc, rfl, hrest⟩ := HV.out.is; have r0 := Y2.c 0; have r1 := Y2.c 1; have r2 := Y2.c 2; have r3 := Y2.c 3; have r4 := Y2.c 4; have r5 := Y2.c 5; have r6 := Y2.c 6; have g0 := Y2.f 0; have g1 := Y2.f 1; have g2 := Y2.f 2; have g3 := Y2.f 3; have g4 := Y2.f 4; have g5 := Y2.f 5; have g6 := Y2.f 6; clear hb2 Y2 hrest hv p0 p1 p2 q0 q1 q2; unfold wayC))
            refine bodyPost_ret (results_cell_row rfl _ _ (w.heap.size + 1) 41 (wayC _ _ _ _ _ _ _ _ _ _) (0, 0) _ rfl (box7_all HR2.out _ _ _ _ _ _ _) Tryz.underlying41 rfl Tryz.size41) rfl ?_
            exact look_end HB2.out (by rw [HVE.out]; exact HV.out)
        · have hne : (xs != ys) = true := by simp [hsy]
          have HVE : Hid (V = actW 2) := hid (by rw [← HVV.out]; unfold lookP; simp [ex, ey, hsy])
          have Y2 := HK.out.res
          have r0 := Y2.c 0; have r1 := Y2.c 1; have r2 := Y2.c 2; have r3 := Y2.c 3; have r4 := Y2.c 4; have r5 := Y2.c 5; have r6 := Y2.c 6; have g0 := Y2.f 0; have g1 := Y2.f 1; have g2 := Y2.f 2; have g3 := Y2.f 3; have g4 := Y2.f 4; have g5 := Y2.f 5; have g6 := Y2.f 6
          clear ex ey Y2
          go_wp2_with fail
          refine bodyPost_ret (results_cell_row rfl _ _ (w.heap.size + 1) 41 (wayC 2 noS (noS, 0) none 0 0 none 0 0 0) (0, 0) _ rfl (box7_all HK.out.res _ _ _ _ _ _ _) Tryz.underlying41 rfl Tryz.size41) rfl ?_
          exact look_end HK.out.low (by rw [HVE.out]; exact WayAt.look (W := actW 2) ⟨none, 0, none, 0, rfl, zT_at _, fun _ => ⟨rfl, rfl⟩⟩ rfl)

end Go.Proofs.YtfnfbljijkjkjaaGreat
