import Derived.Test.YtfnfbljijkjkjaaGreatKSoE
/- One of the program. -/
namespace Go.Proofs.YtfnfbljijkjkjaaGreat
open Go.RowKit Go.Deep

theorem sideP_len (l m : Fo) : (sideP l m).ls.length ≤ lenF l := by
  unfold sideP
  split
  · show ((kidsL l).zip (kidsL m)).length ≤ _
    rw [List.length_zip, kids_len]; omega
  · simp [actW]
theorem lookP_len (sg : List Sym) (l r : Tn) : (lookP sg l r).ls.length ≤ lenF l.2 := by
  unfold lookP
  split
  · split
    · rw [ofVars_none]; simp
    · rw [ofVar_none]; simp
  · split
    · rw [ofVar_none]; simp
    · split
      · split
        · exact sideP_len _ _
        · simp
      · simp [actW]
theorem OneAt.far {base : Nat} {w : World} {v : Value} {W : Wy} (h : OneAt base w v W) {w' : World} (hk : ∀ q, base ≤ q → q < w.heap.size → w'.heap[q]? = w.heap[q]?) (hs : w.heap.size ≤ w'.heap.size) : OneAt base w' v W := by
  obtain ⟨tk, ks, la, lc, h1, h2, h3, h4, h5⟩ := h.is
  refine ⟨tk, ks, la, lc, h1, h2, h3, ?_, (h5.keep (fun q hq hlt => hk q hq.1 hlt)).mono (fun q hq => ⟨hq.1, Nat.lt_of_lt_of_le hq.2.1 hs, hq.2.2⟩)⟩
  rcases h4 with h4 | ⟨g, g1, g2, g3, g4⟩
  · exact .inl h4
  · exact .inr ⟨g, g1, g2, g3, g4.keep (hk g g2 g4.lt)⟩
theorem OneAt.below {base : Nat} {w : World} {v : Value} {W : Wy} (h : OneAt base w v W) {w' : World} (hb : Below w.heap.size w w') : OneAt base w' v W := h.far (fun q _ hq => hb.block q hq) hb.size
theorem OneAt.mono {base base' : Nat} {w : World} {v : Value} {W : Wy} (h : OneAt base w v W) (hb : base' ≤ base) : OneAt base' w v W := by
  obtain ⟨tk, ks, la, lc, h1, h2, h3, h4, h5⟩ := h.is
  refine ⟨tk, ks, la, lc, h1, h2, h3, ?_, h5.mono (fun q hq => ⟨Nat.le_trans hb hq.1, hq.2⟩)⟩
  rcases h4 with h4 | ⟨g, g1, g2, g3, g4⟩
  · exact .inl h4
  · exact .inr ⟨g, g1, Nat.le_trans hb g2, g3, g4⟩
/-- The answer is stored. -/
theorem one_end {w W : World} {x0 x1 x2 x3 x4 x5 x6 : Value} {V : Wy} (hb : Below w.heap.size w W) (hv : OneAt (w.heap.size + 2) W (.agg #[x0, x1, x2, x3, x4, x5, x6]) V) :
    (∃ v, Ending.returned (Value.agg #[x0, x1, x2, x3, x4, x5, x6]) = .returned v ∧ OneAt w.heap.size (((((((W.setCell ⟨w.heap.size + 1, 0, none⟩ x0).setCell ⟨w.heap.size + 1, 1, none⟩ x1).setCell ⟨w.heap.size + 1, 2, none⟩ x2).setCell ⟨w.heap.size + 1, 3, none⟩ x3).setCell ⟨w.heap.size + 1, 4, none⟩ x4).setCell ⟨w.heap.size + 1, 5, none⟩ x5).setCell ⟨w.heap.size + 1, 6, none⟩ x6) v V) ∧
    Below w.heap.size w (((((((W.setCell ⟨w.heap.size + 1, 0, none⟩ x0).setCell ⟨w.heap.size + 1, 1, none⟩ x1).setCell ⟨w.heap.size + 1, 2, none⟩ x2).setCell ⟨w.heap.size + 1, 3, none⟩ x3).setCell ⟨w.heap.size + 1, 4, none⟩ x4).setCell ⟨w.heap.size + 1, 5, none⟩ x5).setCell ⟨w.heap.size + 1, 6, none⟩ x6) :=
  ⟨⟨_, rfl, (hv.far (fun q hq _ => sets7_far (by omega) _ _ _ _ _ _ _) (by simp)).mono (by omega)⟩, sets7_below hb (by omega) _ _ _ _ _ _ _⟩

set_option maxRecDepth 100000 in
set_option maxHeartbeats 4000000 in
theorem one_any (S : Option Addr) (n cap : Nat) (sg : List Sym) (s t : Tn) (a b : Option Addr) (c d : Nat) (w : World) (hG : SigAt w S n sg) (hS : TmAt w s.1 a c s.2) (hT : TmAt w t.1 b d t.2) (hM : nodesF s.2 ≤ 1048576) (hN : nodesF t.2 ≤ 1048576) :
    Calls Tryz.prog 9 #[.slice S n cap, .agg #[.string s.1.1, .int .i64 s.1.2, .slice a (lenF s.2) c, .string t.1.1, .int .i64 t.1.2, .slice b (lenF t.2) d]] w fun e w' => (∃ v, e = .returned v ∧ OneAt w.heap.size w' v (oneP sg s t)) ∧ Below w.heap.size w w' := by
  have hlen := lookP_len sg s t
  have hln := len_nodes s.2
  obtain ⟨⟨xn, xs⟩, l⟩ := s
  obtain ⟨⟨yn, ys⟩, m⟩ := t
  dsimp only at *
  obtain ⟨b1, b2, hb0⟩ := two_new w #[.string xn, .int .i64 xs, .slice a (lenF l) c, .string yn, .int .i64 ys, .slice b (lenF m) d] 28 zWay 41
  have H19 := hid fun (W : World) (hW : Below w.heap.size w W) => tsame_any (xn, xs) (yn, ys) l m a b c d W (hS.below hW) (hT.below hW)
  have H21 := hid fun (W : World) (hW : Below w.heap.size w W) => look_any S n cap sg ((xn, xs), l) ((yn, ys), m) a b c d w W (hG.below hW) hS hT hW hM hN
  have HX := hid b1; have HY := hid b2; have HB0 := hid hb0
  have hsz : Hid (((w.alloc (.cells #[.string xn, .int .i64 xs, .slice a (lenF l) c, .string yn, .int .i64 ys, .slice b (lenF m) d] 28)).alloc (.cells zWay 41)).heap.size = w.heap.size + 2) := hid (by simp)
  obtain ⟨cv, hcv⟩ : ∃ cv, (cmpN ((xn, xs), l) ((yn, ys), m) == 0) = cv := ⟨_, rfl⟩
  obtain ⟨V, hV⟩ : ∃ V, oneP sg ((xn, xs), l) ((yn, ys), m) = V := ⟨_, rfl⟩
  rw [hcv] at H19
  rw [hV]
  have HV := hid hV; have HCV := hid hcv
  clear hG hS hT b1 b2 hb0 hcv hV
  cases cv
  · have HVL : Hid (V = lookP sg ((xn, xs), l) ((yn, ys), m)) := hid (by
      rw [← HV.out]; unfold oneP; rw [if_neg (by have := HCV.out; simpa using this)])
    go_enter Tryz.func9, Tryz.ntmps9
    go_wp2_with (first
      | (go_at_call 21; refine (H19.out _ HB0.out).mono ?_; rintro e w1 ⟨rfl, hb1⟩; have HB1 := hid (HB0.out.trans (hb1.mono HB0.out.size)); have X1 := HX.out.below hb1; have HY1 := hid (HY.out.below hb1); have HZ1 : Hid (w.heap.size + 2 ≤ w1.heap.size) := hid (by have := hb1.size; have := hsz.out; omega); have z0 := X1.c 0; have z1 := X1.c 1; have z2 := X1.c 2; have z3 := X1.c 3; have z4 := X1.c 4; have z5 := X1.c 5; clear hb1 X1)
      | (go_at_call 23; refine (H21.out _ HB1.out).mono ?_; rintro e w2 ⟨⟨v, rfl, hv⟩, hb2⟩; have HB12 := hid hb2; have HB2 := hid (HB1.out.trans (hb2.mono HB1.out.size)); have HY2 := hid (HY1.out.below hb2); have HLK := hid hv; have HZ2 : Hid (w1.heap.size ≤ w2.heap.size) := hid hb2.size; clear hb2 hv)
      | (go_at_call 22; refine (cloneWay_any w1.heap.size _ v w w2 HLK.out HB2.out HB1.out.size HZ2.out (by omega)).mono ?_; rintro e w3 ⟨⟨v3, rfl, ho⟩, hb3⟩; have HB3 : Hid (Below w.heap.size w w3) := hid (HB2.out.trans (hb3.mono HB1.out.size)); have Y3 : Box w3 (w.heap.size + 1) 41 zWay := (hb3.block _ (by have := HZ1.out; omega)).trans HY2.out; have HY3 := hid Y3; have HO : Hid (OneAt (w.heap.size + 2) w3 v3 V) := hid (by rw [HVL.out]; exact ho.mono HZ1.out); obtain ⟨tk, ks, la, lc, rfl, hrest⟩ := HO.out.is; have r0 := Y3.c 0; have r1 := Y3.c 1; have r2 := Y3.c 2; have r3 := Y3.c 3; have r4 := Y3.c 4; have r5 := Y3.c 5; have r6 := Y3.c 6; have g0 := Y3.f 0; have g1 := Y3.f 1; have g2 := Y3.f 2; have g3 := Y3.f 3; have g4 := Y3.f 4; have g5 := Y3.f 5; have g6 := Y3.f 6; clear hb3 Y3 ho hrest z0 z1 z2 z3 z4 z5; unfold wayC))
    refine bodyPost_ret (results_cell_row rfl _ _ (w.heap.size + 1) 41 (wayC _ _ _ _ _ _ _ _ _ _) (0, 0) _ rfl (box7_all HY3.out _ _ _ _ _ _ _) Tryz.underlying41 rfl Tryz.size41) rfl ?_
    exact one_end HB3.out HO.out
  · have HVL : Hid (V = actW 1) := hid (by
      rw [← HV.out]; unfold oneP; rw [if_pos (by have := HCV.out; simpa using this)])
    go_enter Tryz.func9, Tryz.ntmps9
    go_wp2_with (go_at_call 21; refine (H19.out _ HB0.out).mono ?_; rintro e w1 ⟨rfl, hb1⟩; have HB1 := hid (HB0.out.trans (hb1.mono HB0.out.size)); have Y1 := HY.out.below hb1; have HY1 := hid Y1; have r0 := Y1.c 0; have r1 := Y1.c 1; have r2 := Y1.c 2; have r3 := Y1.c 3; have r4 := Y1.c 4; have r5 := Y1.c 5; have r6 := Y1.c 6; have g0 := Y1.f 0; have g1 := Y1.f 1; have g2 := Y1.f 2; have g3 := Y1.f 3; have g4 := Y1.f 4; have g5 := Y1.f 5; have g6 := Y1.f 6; clear hb1 Y1)
    refine bodyPost_ret (results_cell_row rfl _ _ (w.heap.size + 1) 41 (wayC 1 noS (noS, 0) none 0 0 none 0 0 0) (0, 0) _ rfl (box7_all HY1.out _ _ _ _ _ _ _) Tryz.underlying41 rfl Tryz.size41) rfl ?_
    exact one_end HB1.out (by
      rw [HVL.out]
      exact ⟨⟨(noS, 0), .nil, none, 0⟩, [], none, 0, rfl, rfl, rfl, .inl ⟨rfl, rfl, rfl⟩, ⟨fun _ => False, fun _ => False, fun _ h => h.elim, fun _ h => h.elim, ⟨⟨by decide, by simp [lenF], by simp, by simp [lenF]⟩, .inl rfl⟩, trivial⟩⟩)
end Go.Proofs.YtfnfbljijkjkjaaGreat
