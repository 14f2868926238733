import Derived.Deep.RegionHeld3
import Derived.BigRegion
import Derived.Test.YtfnfbljijkjkjaaGreatKSoA
/- Same, ofVars, isFree, sideBySide of the program; rows of equations. -/
namespace Go.Proofs.YtfnfbljijkjkjaaGreat
open Go.RowKit Go.Deep

set_option maxRecDepth 100000 in
set_option maxHeartbeats 2000000 in
theorem tsame_any (x y : ByteArray × Int) (l m : Fo) (a b : Option Addr) (c d : Nat) (w : World) (hS : TmAt w x a c l) (hT : TmAt w y b d m) :
    Calls Tryz.prog 21 #[.agg #[.string x.1, .int .i64 x.2, .slice a (lenF l) c], .agg #[.string y.1, .int .i64 y.2, .slice b (lenF m) d]] w fun e w' => e = .returned (.bool (cmpN (x, l) (y, m) == 0)) ∧ Below w.heap.size w w' := by
  have PA := hid (Pair.new w x a (lenF l) c y b (lenF m) d)
  have HC := hid (compare_all (nodesF l) x y a b c d l m _ (Nat.le_refl _) (hS.below PA.out.low) (hT.below PA.out.low))
  have t0 := PA.out.l.c0; have t1 := PA.out.l.c1; have t2 := PA.out.l.c2
  have r0 := PA.out.r.c0; have r1 := PA.out.r.c1; have r2 := PA.out.r.c2
  obtain ⟨cv, hcv⟩ : ∃ cv, cmp1 x y (lenF l) (lenF m) (cmpF l m) = cv := ⟨_, rfl⟩
  have hcv' : cmpN (x, l) (y, m) = cv := hcv
  rw [hcv] at HC
  rw [hcv']
  clear hS hT hcv hcv'
  go_enter Tryz.func21, Tryz.ntmps21
  go_wp2_with fail
  refine HC.out.mono ?_
  rintro e w1 ⟨rfl, hg1⟩
  have HL := hid (PA.out.low.trans (hg1.below.mono PA.out.low.size))
  clear hg1 HC
  go_wp2_with fail
  go_ret
  exact ⟨rfl, HL.out⟩

/-- Three boxes. -/
theorem three_new (w : World) (c1 : Array Value) (t1 : TypeId) (c2 : Array Value) (t2 : TypeId) (c3 : Array Value) (t3 : TypeId) :
    Box (((w.alloc (.cells c1 t1)).alloc (.cells c2 t2)).alloc (.cells c3 t3)) w.heap.size t1 c1 ∧ Box (((w.alloc (.cells c1 t1)).alloc (.cells c2 t2)).alloc (.cells c3 t3)) (w.heap.size + 1) t2 c2 ∧ Box (((w.alloc (.cells c1 t1)).alloc (.cells c2 t2)).alloc (.cells c3 t3)) (w.heap.size + 1 + 1) t3 c3 ∧ Below w.heap.size w (((w.alloc (.cells c1 t1)).alloc (.cells c2 t2)).alloc (.cells c3 t3)) := by
  obtain ⟨h1, h2, h3⟩ := two_new w c1 t1 c2 t2
  exact ⟨h1.over _, h2.over _, box_new (by simp) t3 c3, h3.alloc (by simp; omega) _⟩

set_option maxRecDepth 100000 in
set_option maxHeartbeats 2000000 in
theorem ofVars_any (s t : Tn) (a b : Option Addr) (c d : Nat) (w0 w : World) (hS0 : TmAt w0 s.1 a c s.2) (hT0 : TmAt w0 t.1 b d t.2) (hw : Below w0.heap.size w0 w) :
    Calls Tryz.prog 42 #[.agg #[.string s.1.1, .int .i64 s.1.2, .slice a (lenF s.2) c], .agg #[.string t.1.1, .int .i64 t.1.2, .slice b (lenF t.2) d]] w fun e w' => (∃ v, e = .returned v ∧ WayAt w0 v (ofVarsP s t)) ∧ Below w.heap.size w w' := by
  have hS := hS0.below hw
  have hT := hT0.below hw
  obtain ⟨⟨xn, xs⟩, l⟩ := s
  obtain ⟨⟨yn, ys⟩, m⟩ := t
  obtain ⟨b1, b2, b3, hb0⟩ := three_new w #[.string xn, .int .i64 xs, .slice a (lenF l) c] 26 #[.string yn, .int .i64 ys, .slice b (lenF m) d] 26 zWay 41
  have HS := hid hS0; have HT := hid hT0
  have HC := hid fun (W : World) (hW : Below w.heap.size w W) => compare_all (nodesF l) (xn, xs) (yn, ys) a b c d l m W (Nat.le_refl _) (hS.below hW) (hT.below hW)
  obtain ⟨cv, hcv⟩ : ∃ cv, cmp1 (xn, xs) (yn, ys) (lenF l) (lenF m) (cmpF l m) = cv := ⟨_, rfl⟩
  have hcv' : cmpN ((xn, xs), l) ((yn, ys), m) = cv := hcv
  have HA := hid fun (W : World) => setTo_any xn (yn, ys) b (lenF m) d W
  have HD := hid fun (W : World) => setTo_any yn (xn, xs) a (lenF l) c W
  unfold ofVarsP
  rw [hcv']
  rw [hcv] at HC
  have HX := hid b1; have HY := hid b2; have HZ := hid b3; have HB0 := hid hb0
  clear hS hT hS0 hT0 hw b1 b2 b3 hb0 hcv hcv'
  dsimp only at *
  by_cases h0 : cv = 0
  · subst h0
    rw [if_pos rfl]
    go_enter Tryz.func42, Tryz.ntmps42
    go_wp2_with (first
      | (go_at_call 40; refine (HC.out _ HB0.out).mono ?_; rintro e w1 ⟨rfl, hg1⟩; have hb1 := hg1.below; have HB1 := hid (HB0.out.trans (hb1.mono HB0.out.size)); have Y1 := HZ.out.below hb1; have HY1 := hid Y1; have r0 := Y1.c 0; have r1 := Y1.c 1; have r2 := Y1.c 2; have r3 := Y1.c 3; have r4 := Y1.c 4; have r5 := Y1.c 5; have r6 := Y1.c 6; have g0 := Y1.f 0; have g1 := Y1.f 1; have g2 := Y1.f 2; have g3 := Y1.f 3; have g4 := Y1.f 4; have g5 := Y1.f 5; have g6 := Y1.f 6; clear hb1 Y1 hg1))
    refine bodyPost_ret (results_cell_row rfl _ _ (w.heap.size + 1 + 1) 41 (wayC 1 noS (noS, 0) none 0 0 none 0 0 0) (0, 0) _ rfl (box7_all HY1.out _ _ _ _ _ _ _) Tryz.underlying41 rfl Tryz.size41) rfl ?_
    have hB := sets7_below (B := w.heap.size + 1 + 1) HB1.out (by omega) (.int .i64 1) (.string noS) (.string noS) (.int .i64 0) (.slice none 0 0) (.slice none 0 0) (.int .i64 0)
    exact ⟨⟨_, rfl, ⟨none, 0, none, 0, rfl, zT_at _, fun _ => ⟨rfl, rfl⟩⟩⟩, hB⟩
  · rw [if_neg h0]
    have h0' : (cv == 0) = false := by simp [h0]
    by_cases h1 : cv = 1
    · subst h1
      rw [if_pos rfl]
      go_enter Tryz.func42, Tryz.ntmps42
      go_wp2_with (first
        | (go_at_call 40; refine (HC.out _ HB0.out).mono ?_; rintro e w1 ⟨rfl, hg1⟩; have hb1 := hg1.below; have HB1 := hid (HB0.out.trans (hb1.mono HB0.out.size)); have X1 := HX.out.below hb1; have Z1 := HY.out.below hb1; have HY1 := hid (HZ.out.below hb1); have z0 := X1.c 0; have z1 := X1.c 1; have z2 := X1.c 2; have q0 := Z1.c 0; have q1 := Z1.c 1; have q2 := Z1.c 2; clear hb1 X1 Z1 hg1)
        | (go_at_call 68; refine (HA.out _).mono ?_; rintro e w2 ⟨rfl, hb2⟩; have HB2 := hid (HB1.out.trans (hb2.mono HB1.out.size)); have Y2 := HY1.out.below hb2; have HY2 := hid Y2; have r0 := Y2.c 0; have r1 := Y2.c 1; have r2 := Y2.c 2; have r3 := Y2.c 3; have r4 := Y2.c 4; have r5 := Y2.c 5; have r6 := Y2.c 6; have g0 := Y2.f 0; have g1 := Y2.f 1; have g2 := Y2.f 2; have g3 := Y2.f 3; have g4 := Y2.f 4; have g5 := Y2.f 5; have g6 := Y2.f 6; clear hb2 Y2; unfold wayC))
      refine bodyPost_ret (results_cell_row rfl _ _ (w.heap.size + 1 + 1) 41 (wayC 3 xn (yn, ys) b (lenF m) d none 0 0 0) (0, 0) _ rfl (box7_all HY2.out _ _ _ _ _ _ _) Tryz.underlying41 rfl Tryz.size41) rfl ?_
      have hB := sets7_below (B := w.heap.size + 1 + 1) HB2.out (by omega) (.int .i64 3) (.string xn) (.string yn) (.int .i64 ys) (.slice b (lenF m) d) (.slice none 0 0) (.int .i64 0)
      exact ⟨⟨_, rfl, ⟨b, d, none, 0, rfl, HT.out, fun _ => ⟨rfl, rfl⟩⟩⟩, hB⟩
    · rw [if_neg h1]
      have h1' : (cv == 1) = false := by simp [h1]
      go_enter Tryz.func42, Tryz.ntmps42
      go_wp2_with (first
        | (go_at_call 40; refine (HC.out _ HB0.out).mono ?_; rintro e w1 ⟨rfl, hg1⟩; have hb1 := hg1.below; have HB1 := hid (HB0.out.trans (hb1.mono HB0.out.size)); have X1 := HX.out.below hb1; have Z1 := HY.out.below hb1; have HY1 := hid (HZ.out.below hb1); have z0 := X1.c 0; have z1 := X1.c 1; have z2 := X1.c 2; have q0 := Z1.c 0; have q1 := Z1.c 1; have q2 := Z1.c 2; clear hb1 X1 Z1 hg1)
        | (go_at_call 68; refine (HD.out _).mono ?_; rintro e w2 ⟨rfl, hb2⟩; have HB2 := hid (HB1.out.trans (hb2.mono HB1.out.size)); have Y2 := HY1.out.below hb2; have HY2 := hid Y2; have r0 := Y2.c 0; have r1 := Y2.c 1; have r2 := Y2.c 2; have r3 := Y2.c 3; have r4 := Y2.c 4; have r5 := Y2.c 5; have r6 := Y2.c 6; have g0 := Y2.f 0; have g1 := Y2.f 1; have g2 := Y2.f 2; have g3 := Y2.f 3; have g4 := Y2.f 4; have g5 := Y2.f 5; have g6 := Y2.f 6; clear hb2 Y2; unfold wayC))
      refine bodyPost_ret (results_cell_row rfl _ _ (w.heap.size + 1 + 1) 41 (wayC 3 yn (xn, xs) a (lenF l) c none 0 0 0) (0, 0) _ rfl (box7_all HY2.out _ _ _ _ _ _ _) Tryz.underlying41 rfl Tryz.size41) rfl ?_
      have hB := sets7_below (B := w.heap.size + 1 + 1) HB2.out (by omega) (.int .i64 3) (.string yn) (.string xn) (.int .i64 xs) (.slice a (lenF l) c) (.slice none 0 0) (.int .i64 0)
      exact ⟨⟨_, rfl, ⟨a, c, none, 0, rfl, HS.out, fun _ => ⟨rfl, rfl⟩⟩⟩, hB⟩

set_option maxRecDepth 100000 in
set_option maxHeartbeats 2000000 in
theorem isFree_any (S : Option Addr) (n cap : Nat) (l : List Sym) (i : Int) (w : World) (hS : SigAt w S n l) :
    Calls Tryz.prog 44 #[.slice S n cap, .int .i64 i] w fun e w' => e = .returned (.bool (freeB l i)) ∧ w' = w := by
  have hlen := hS.len
  unfold freeB
  by_cases h0 : 0 ≤ i
  · have d0 : decide (0 ≤ i) = true := decide_eq_true h0
    by_cases h1 : i < n
    · have hi : i.toNat < l.length := by omega
      obtain ⟨b, off, rfl, hy⟩ := hS.cells i.toNat hi
      have c1 := hy.kind
      have hk : kindAt l i = l[i.toNat].kind := by unfold kindAt; rw [List.getElem?_eq_getElem hi]
      rw [hk, d0, decide_eq_true (show i < (l.length : Int) by omega)]
      obtain ⟨k, hkk⟩ : ∃ k, l[i.toNat].kind = k := ⟨_, rfl⟩
      rw [hkk] at c1 ⊢
      obtain ⟨j, rfl⟩ : ∃ j : Nat, i = j := ⟨i.toNat, by omega⟩
      simp only [Int.toNat_natCast] at c1
      clear hS hkk hk hy
      go_enter Tryz.func44, Tryz.ntmps44
      go_wp2
      go_ret
      exact ⟨rfl, rfl⟩
    · rw [d0, decide_eq_false (show ¬ i < (l.length : Int) by omega)]
      clear hS
      go_enter Tryz.func44, Tryz.ntmps44
      go_wp2
      go_ret
      exact ⟨rfl, rfl⟩
  · rw [decide_eq_false h0]
    clear hS
    go_enter Tryz.func44, Tryz.ntmps44
    go_wp2
    go_ret
    exact ⟨rfl, rfl⟩
end Go.Proofs.YtfnfbljijkjkjaaGreat
