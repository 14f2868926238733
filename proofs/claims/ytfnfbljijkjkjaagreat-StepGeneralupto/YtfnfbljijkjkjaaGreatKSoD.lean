import Derived.Deep.DeepCutAuto
import Derived.Test.YtfnfbljijkjkjaaGreatKSoC
/- look of the program. -/
namespace Go.Proofs.YtfnfbljijkjkjaaGreat
open Go.RowKit Go.Deep

/-- look's own boxes. -/
structure LkBox (w : World) (s t : Tn) (a b : Option Addr) (c d : Nat) (B5 B6 : Nat) (W : World) : Prop where
  low : Below w.heap.size w W
  res : Box W (w.heap.size + 1) 41 zWay
  l : TBox W B5 s.1 a (lenF s.2) c
  r : TBox W B6 t.1 b (lenF t.2) d
  far : w.heap.size + 2 ≤ B5

theorem lk_one {w W0 : World} {s t : Tn} {a b : Option Addr} {c d : Nat} (hb : Below w.heap.size w W0) (hr : Box W0 (w.heap.size + 1) 41 zWay) {q : Nat} (hq : W0.heap.size = q) :
    LkBox w s t a b c d q (q + 1) ((W0.alloc (.cells #[.string s.1.1, .int .i64 s.1.2, .slice a (lenF s.2) c] 26)).alloc (.cells #[.string t.1.1, .int .i64 t.1.2, .slice b (lenF t.2) d] 26)).drew := by
  subst hq
  obtain ⟨h1, h2, h3⟩ := two_new W0 #[.string s.1.1, .int .i64 s.1.2, .slice a (lenF s.2) c] 26 #[.string t.1.1, .int .i64 t.1.2, .slice b (lenF t.2) d] 26
  exact ⟨(hb.trans (h3.mono hb.size)).drew, (hr.below h3).drew, h1, h2, by have := hr.lt; omega⟩
theorem lk_two {w W0 : World} {s t : Tn} {a b : Option Addr} {c d : Nat} (hb : Below w.heap.size w W0) (hr : Box W0 (w.heap.size + 1) 41 zWay) {q : Nat} (hq : W0.heap.size = q) :
    LkBox w s t a b c d (q + 1) q ((W0.alloc (.cells #[.string t.1.1, .int .i64 t.1.2, .slice b (lenF t.2) d] 26)).alloc (.cells #[.string s.1.1, .int .i64 s.1.2, .slice a (lenF s.2) c] 26)).drew := by
  subst hq
  obtain ⟨h1, h2, h3⟩ := two_new W0 #[.string t.1.1, .int .i64 t.1.2, .slice b (lenF t.2) d] 26 #[.string s.1.1, .int .i64 s.1.2, .slice a (lenF s.2) c] 26
  exact ⟨(hb.trans (h3.mono hb.size)).drew, (hr.below h3).drew, h2, h1, by have := hr.lt; omega⟩

/-- The answer is stored. -/
theorem look_end {w wt W : World} {x0 x1 x2 x3 x4 x5 x6 : Value} {V : Wy} (hb : Below w.heap.size w W) (hv : LookAt (w.heap.size + 2) wt W (.agg #[x0, x1, x2, x3, x4, x5, x6]) V) :
    (∃ v, Ending.returned (Value.agg #[x0, x1, x2, x3, x4, x5, x6]) = .returned v ∧ LookAt w.heap.size wt (((((((W.setCell ⟨w.heap.size + 1, 0, none⟩ x0).setCell ⟨w.heap.size + 1, 1, none⟩ x1).setCell ⟨w.heap.size + 1, 2, none⟩ x2).setCell ⟨w.heap.size + 1, 3, none⟩ x3).setCell ⟨w.heap.size + 1, 4, none⟩ x4).setCell ⟨w.heap.size + 1, 5, none⟩ x5).setCell ⟨w.heap.size + 1, 6, none⟩ x6) v V) ∧
    Below w.heap.size w (((((((W.setCell ⟨w.heap.size + 1, 0, none⟩ x0).setCell ⟨w.heap.size + 1, 1, none⟩ x1).setCell ⟨w.heap.size + 1, 2, none⟩ x2).setCell ⟨w.heap.size + 1, 3, none⟩ x3).setCell ⟨w.heap.size + 1, 4, none⟩ x4).setCell ⟨w.heap.size + 1, 5, none⟩ x5).setCell ⟨w.heap.size + 1, 6, none⟩ x6) :=
  ⟨⟨_, rfl, (hv.keep (fun q hq _ => sets7_far (by omega) _ _ _ _ _ _ _)).mono (by omega)⟩, sets7_below hb (by omega) _ _ _ _ _ _ _⟩

set_option maxRecDepth 100000 in
set_option maxHeartbeats 4000000 in
theorem look_any (S : Option Addr) (n cap : Nat) (sg : List Sym) (s t : Tn) (a b : Option Addr) (c d : Nat) (wt w : World) (hG : SigAt w S n sg) (hS : TmAt wt s.1 a c s.2) (hT : TmAt wt t.1 b d t.2) (hw : Below wt.heap.size wt w) (hM : nodesF s.2 ≤ 1048576) (hN : nodesF t.2 ≤ 1048576) :
    Calls Tryz.prog 23 #[.slice S n cap, .agg #[.string s.1.1, .int .i64 s.1.2, .slice a (lenF s.2) c, .string t.1.1, .int .i64 t.1.2, .slice b (lenF t.2) d]] w fun e w' => (∃ v, e = .returned v ∧ LookAt w.heap.size wt w' v (lookP sg s t)) ∧ Below w.heap.size w w' := by
  obtain ⟨⟨xn, xs⟩, l⟩ := s
  obtain ⟨⟨yn, ys⟩, m⟩ := t
  dsimp only at *
  obtain ⟨b1, b2, hb0⟩ := two_new w #[.string xn, .int .i64 xs, .slice a (lenF l) c, .string yn, .int .i64 ys, .slice b (lenF m) d] 28 zWay 41
  have HG := hid hG; have HS := hid hS; have HT := hid hT; have HW := hid hw
  have HR := hid b2; have HB0 := hid hb0
  have hsz : Hid (((w.alloc (.cells #[.string xn, .int .i64 xs, .slice a (lenF l) c, .string yn, .int .i64 ys, .slice b (lenF m) d] 28)).alloc (.cells zWay 41)).heap.size = w.heap.size + 2) := hid (by simp)
  have c0 : ((w.alloc (.cells #[.string xn, .int .i64 xs, .slice a (lenF l) c, .string yn, .int .i64 ys, .slice b (lenF m) d] 28)).alloc (.cells zWay 41)).cell? ⟨w.heap.size, 0, none⟩ = some (.string xn) := b1.c 0
  have c1 : ((w.alloc (.cells #[.string xn, .int .i64 xs, .slice a (lenF l) c, .string yn, .int .i64 ys, .slice b (lenF m) d] 28)).alloc (.cells zWay 41)).cell? ⟨w.heap.size, 1, none⟩ = some (.int .i64 xs) := b1.c 1
  have c2 : ((w.alloc (.cells #[.string xn, .int .i64 xs, .slice a (lenF l) c, .string yn, .int .i64 ys, .slice b (lenF m) d] 28)).alloc (.cells zWay 41)).cell? ⟨w.heap.size, 2, none⟩ = some (.slice a (lenF l) c) := b1.c 2
  have c3 : ((w.alloc (.cells #[.string xn, .int .i64 xs, .slice a (lenF l) c, .string yn, .int .i64 ys, .slice b (lenF m) d] 28)).alloc (.cells zWay 41)).cell? ⟨w.heap.size, 3, none⟩ = some (.string yn) := b1.c 3
  have c4 : ((w.alloc (.cells #[.string xn, .int .i64 xs, .slice a (lenF l) c, .string yn, .int .i64 ys, .slice b (lenF m) d] 28)).alloc (.cells zWay 41)).cell? ⟨w.heap.size, 4, none⟩ = some (.int .i64 ys) := b1.c 4
  have c5 : ((w.alloc (.cells #[.string xn, .int .i64 xs, .slice a (lenF l) c, .string yn, .int .i64 ys, .slice b (lenF m) d] 28)).alloc (.cells zWay 41)).cell? ⟨w.heap.size, 5, none⟩ = some (.slice b (lenF m) d) := b1.c 5
  obtain ⟨V, hV⟩ : ∃ V, lookP sg ((xn, xs), l) ((yn, ys), m) = V := ⟨_, rfl⟩
  rw [hV]
  have HVV := hid hV
  clear hG hS hT hw b1 b2 hb0 hV
  go_enter Tryz.func23, Tryz.ntmps23
  go_upto_region 1 with fail
  go_cut [5, 6] (fun p q W => ∃ B5 B6, p = .pointer (some ⟨B5, 0, none⟩) ∧ q = .pointer (some ⟨B6, 0, none⟩) ∧ LkBox w ((xn, xs), l) ((yn, ys), m) a b c d B5 B6 W)
  case first =>
    go_region
    all_goals (go_wp2_with fail; go_meet)
    all_goals first
      | exact ⟨_, _, rfl, rfl, lk_one HB0.out HR.out hsz.out⟩
      | exact ⟨_, _, rfl, rfl, lk_two HB0.out HR.out hsz.out⟩
  case rest =>
    obtain ⟨B5, B6, rfl, rfl, hk⟩ := hcut
    have HK := hid hk
    have p0 := hk.l.c0; have p1 := hk.l.c1; have p2 := hk.l.c2
    have q0 := hk.r.c0; have q1 := hk.r.c1; have q2 := hk.r.c2
    dsimp only at p0 p1 p2 q0 q1 q2
    have hWW := HW.out.trans (hk.low.mono HW.out.size)
    have H40 := hid (ofVars_any ((xn, xs), l) ((yn, ys), m) a b c d wt wc HS.out HT.out hWW)
    have H41 := hid (ofVar_any xn ((yn, ys), m) b d wt wc HT.out hWW hN)
    have H41' := hid (ofVar_any yn ((xn, xs), l) a c wt wc HS.out hWW hM)
    have H42 := hid (isFree_any S n cap sg xs wc (HG.out.below hk.low))
    have H43 := hid (sideBySide_any (xn, xs) (yn, ys) l m a b c d wt wc HS.out HT.out hWW hM)
    clear hk c0 c1 c2 c3 c4 c5 HR HB0 hsz hWW
    dsimp only at *
    cases hx : xn.toList.isEmpty
    · have ex : noName xn = false := hx
      cases hy : yn.toList.isEmpty
      · have ey : noName yn = false := hy
        have HVE : Hid (V = ofVarsP ((xn, xs), l) ((yn, ys), m)) := hid (by rw [← HVV.out]; unfold lookP; simp [ex, ey])
        clear ex ey
        go_wp2_with (first
          | (go_at_call 42; refine (H40.out).mono ?_; rintro e w2 ⟨⟨v, rfl, hv⟩, hb2⟩; have HV := hid (hv.look (base := w.heap.size + 2) (w := w2) (ofVars_none _ _)); have HB2 := hid (HK.out.low.trans (hb2.mono HK.out.low.size)); have Y2 := HK.out.res.below hb2; have HR2 := hid Y2; obtain ⟨tk, ks, la, lc, rfl, hrest⟩ := HV.out.is; have HREST := hid hrest; have r0 := Y2.c 0; have r1 := Y2.c 1; have r2 := Y2.c 2; have r3 := Y2.c 3; have r4 := Y2.c 4; have r5 := Y2.c 5; have r6 := Y2.c 6; have g0 := Y2.f 0; have g1 := Y2.f 1; have g2 := Y2.f 2; have g3 := Y2.f 3; have g4 := Y2.f 4; have g5 := Y2.f 5; have g6 := Y2.f 6; clear hb2 Y2 hrest hv p0 p1 p2 q0 q1 q2; unfold wayC))
        refine bodyPost_ret (results_cell_row rfl _ _ (w.heap.size + 1) 41 (wayC _ _ _ _ _ _ _ _ _ _) (0, 0) _ rfl (box7_all HR2.out _ _ _ _ _ _ _) Tryz.underlying41 rfl Tryz.size41) rfl ?_
        exact look_end HB2.out (by rw [HVE.out]; exact HV.out)
      · have ey : noName yn = true := hy
        have HVE : Hid (V = ofVarP xn ((yn, ys), m)) := hid (by rw [← HVV.out]; unfold lookP; simp [ex, ey])
        clear ex ey
        go_wp2_with (first
          | (go_at_call 43; refine (H41.out).mono ?_; rintro e w2 ⟨⟨v, rfl, hv⟩, hb2⟩; have HV := hid (hv.look (base := w.heap.size + 2) (w := w2) (ofVar_none _ _)); have HB2 := hid (HK.out.low.trans (hb2.mono HK.out.low.size)); have Y2 := HK.out.res.below hb2; have HR2 := hid Y2; obtain ⟨tk, ks, la, lc, rfl, hrest⟩ := HV.out.is; have HREST := hid hrest; have r0 := Y2.c 0; have r1 := Y2.c 1; have r2 := Y2.c 2; have r3 := Y2.c 3; have r4 := Y2.c 4; have r5 := Y2.c 5; have r6 := Y2.c 6; have g0 := Y2.f 0; have g1 := Y2.f 1; have g2 := Y2.f 2; have g3 := Y2.f 3; have g4 := Y2.f 4; have g5 := Y2.f 5; have g6 := Y2.f 6; clear hb2 Y2 hrest hv p0 p1 p2 q0 q1 q2; unfold wayC))
        refine bodyPost_ret (results_cell_row rfl _ _ (w.heap.size + 1) 41 (wayC _ _ _ _ _ _ _ _ _ _) (0, 0) _ rfl (box7_all HR2.out _ _ _ _ _ _ _) Tryz.underlying41 rfl Tryz.size41) rfl ?_
        exact look_end HB2.out (by rw [HVE.out]; exact HV.out)
    · have ex : noName xn = true := hx
      cases hy : yn.toList.isEmpty
      · have ey : noName yn = false := hy
        have HVE : Hid (V = ofVarP yn ((xn, xs), l)) := hid (by rw [← HVV.out]; unfold lookP; simp [ex, ey])
        clear ex ey
        go_wp2_with (first
          | (go_at_call 43; refine (H41'.out).mono ?_; rintro e w2 ⟨⟨v, rfl, hv⟩, hb2⟩; have HV := hid (hv.look (base := w.heap.size + 2) (w := w2) (ofVar_none _ _)); have HB2 := hid (HK.out.low.trans (hb2.mono HK.out.low.size)); have Y2 := HK.out.res.below hb2; have HR2 := hid Y2; obtain ⟨tk, ks, la, lc, rfl, hrest⟩ := HV.out.is; have HREST := hid hrest; have r0 := Y2.c 0; have r1 := Y2.c 1; have r2 := Y2.c 2; have r3 := Y2.c 3; have r4 := Y2.c 4; have r5 := Y2.c 5; have r6 := Y2.c 6; have g0 := Y2.f 0; have g1 := Y2.f 1; have g2 := Y2.f 2; have g3 := Y2.f 3; have g4 := Y2.f 4; have g5 := Y2.f 5; have g6 := Y2.f 6; clear hb2 Y2 hrest hv p0 p1 p2 q0 q1 q2; unfold wayC))
        refine bodyPost_ret (results_cell_row rfl _ _ (w.heap.size + 1) 41 (wayC _ _ _ _ _ _ _ _ _ _) (0, 0) _ rfl (box7_all HR2.out _ _ _ _ _ _ _) Tryz.underlying41 rfl Tryz.size41) rfl ?_
        exact look_end HB2.out (by rw [HVE.out]; exact HV.out)
      · have ey : noName yn = true := hy
        by_cases hsy : xs = ys
        · subst hsy
          have hne : (xs != xs) = false := by simp
          cases hfr : freeB sg xs
          · have HVE : Hid (V = ⟨5, noS, zT, [], xs⟩) := hid (by rw [← HVV.out]; unfold lookP; simp [ex, ey, hfr])
            have HFR := hid hfr
            have Y2 := HK.out.res
            have r0 := Y2.c 0; have r1 := Y2.c 1; have r2 := Y2.c 2; have r3 := Y2.c 3; have r4 := Y2.c 4; have r5 := Y2.c 5; have r6 := Y2.c 6; have g0 := Y2.f 0; have g1 := Y2.f 1; have g2 := Y2.f 2; have g3 := Y2.f 3; have g4 := Y2.f 4; have g5 := Y2.f 5; have g6 := Y2.f 6
            clear ex ey hfr Y2
            go_wp2_with (go_at_call 44; refine H42.out.mono ?_; rintro e w3 ⟨rfl, rfl⟩; rw [HFR.out])
            refine bodyPost_ret (results_cell_row rfl _ _ (w.heap.size + 1) 41 (wayC 5 noS (noS, 0) none 0 0 none 0 0 xs) (0, 0) _ rfl (box7_all HK.out.res _ _ _ _ _ _ _) Tryz.underlying41 rfl Tryz.size41) rfl ?_
            exact look_end HK.out.low (by rw [HVE.out]; exact WayAt.look (W := ⟨5, noS, zT, [], xs⟩) ⟨none, 0, none, 0, rfl, zT_at _, fun _ => ⟨rfl, rfl⟩⟩ rfl)
          · have HVE : Hid (V = sideP l m) := hid (by rw [← HVV.out]; unfold lookP; simp [ex, ey, hfr])
            have HFR := hid hfr
            have HSZ2 : Hid (w.heap.size + 2 ≤ wc.heap.size) := hid (by have := HK.out.l.lt; have := HK.out.far; omega)
            clear ex ey hfr
            go_wp2_with (first
              | (go_at_call 44; refine H42.out.mono ?_; rintro e w3 ⟨rfl, rfl⟩; rw [HFR.out])
              | (go_at_call 45; refine (H43.out).mono ?_; rintro e w2 ⟨⟨v, rfl, hv⟩, hb2⟩; have HV := hid (hv.mono (base' := w.heap.size + 2) HSZ2.out); have HB2 := hid (HK.out.low.trans (hb2.mono HK.out.low.size)); have Y2 := HK.out.res.below hb2; have HR2 := hid Y2; obtain ⟨tk, ks, la, lc, rfl, hrest⟩ := HV.out.is; have r0 := Y2.c 0; have r1 := Y2.c 1; have r2 := Y2.c 2; have r3 := Y2.c 3; have r4 := Y2.c 4; have r5 := Y2.c 5; have r6 := Y2.c 6; have g0 := Y2.f 0; have g1 := Y2.f 1; have g2 := Y2.f 2; have g3 := Y2.f 3; have g4 := Y2.f 4; have g5 := Y2.f 5; have g6 := Y2.f 6; clear hb2 Y2 hrest hv p0 p1 p2 q0 q1 q2; unfold wayC))
            refine bodyPost_ret (results_cell_row rfl _ _ (w.heap.size + 1) 41 (wayC _ _ _ _ _ _ _ _ _ _) (0, 0) _ rfl (box7_all HR2.out _ _ _ _ _ _ _) Tryz.underlying41 rfl Tryz.size41) rfl ?_
            exact look_end HB2.out (by rw [HVE.out]; exact HV.out)
        · have hne : (xs != ys) = true := by simp [hsy]
          have HVE : Hid (V = actW 2) := hid (by rw [← HVV.out]; unfold lookP; simp [ex, ey, hsy])
          have Y2 := HK.out.res
          have r0 := Y2.c 0; have r1 := Y2.c 1; have r2 := Y2.c 2; have r3 := Y2.c 3; have r4 := Y2.c 4; have r5 := Y2.c 5; have r6 := Y2.c 6; have g0 := Y2.f 0; have g1 := Y2.f 1; have g2 := Y2.f 2; have g3 := Y2.f 3; have g4 := Y2.f 4; have g5 := Y2.f 5; have g6 := Y2.f 6
          clear ex ey Y2
          go_wp2_with fail
          refine bodyPost_ret (results_cell_row rfl _ _ (w.heap.size + 1) 41 (wayC 2 noS (noS, 0) none 0 0 none 0 0 0) (0, 0) _ rfl (box7_all HK.out.res _ _ _ _ _ _ _) Tryz.underlying41 rfl Tryz.size41) rfl ?_
          exact look_end HK.out.low (by rw [HVE.out]; exact WayAt.look (W := actW 2) ⟨none, 0, none, 0, rfl, zT_at _, fun _ => ⟨rfl, rfl⟩⟩ rfl)
end Go.Proofs.YtfnfbljijkjkjaaGreat
