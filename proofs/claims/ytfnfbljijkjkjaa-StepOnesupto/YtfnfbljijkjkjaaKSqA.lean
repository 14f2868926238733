import Derived.Test.YtfnfbljijkjkjaaKSoT
/- The document's set, and its One but for parts. -/
namespace Go.Proofs.Ytfnfbljijkjkjaa
open Go.RowKit Go.Deep

theorem four_new (w : World) (c1 : Array Value) (t1 : TypeId) (c2 : Array Value) (t2 : TypeId) (c3 : Array Value) (t3 : TypeId) (c4 : Array Value) (t4 : TypeId) :
    Box ((((w.alloc (.cells c1 t1)).alloc (.cells c2 t2)).alloc (.cells c3 t3)).alloc (.cells c4 t4)) (w.heap.size + 1) t2 c2 ∧ Box ((((w.alloc (.cells c1 t1)).alloc (.cells c2 t2)).alloc (.cells c3 t3)).alloc (.cells c4 t4)) (w.heap.size + 1 + 1) t3 c3 ∧ Box ((((w.alloc (.cells c1 t1)).alloc (.cells c2 t2)).alloc (.cells c3 t3)).alloc (.cells c4 t4)) (w.heap.size + 1 + 1 + 1) t4 c4 ∧ Below w.heap.size w ((((w.alloc (.cells c1 t1)).alloc (.cells c2 t2)).alloc (.cells c3 t3)).alloc (.cells c4 t4)) :=
  ⟨((two_new w c1 t1 c2 t2).2.1.over _).over _, (box_new (by simp) t3 c3).over _, box_new (by simp) t4 c4, ((two_new w c1 t1 c2 t2).2.2.alloc (by simp; omega) _).alloc (by simp; omega) _⟩

set_option maxRecDepth 100000 in
set_option maxHeartbeats 2000000 in
theorem rset_any (nm : ByteArray) (t : Tn) (a : Option Addr) (c : Nat) (w : World) (hT : TmAt w t.1 a c t.2) :
    Calls Try.prog 27 #[.string nm, .agg #[.string t.1.1, .int .i64 t.1.2, .slice a (lenF t.2) c]] w fun e w' => ∃ a' c', e = .returned (.agg (wayC 3 nm t.1 a' (lenF t.2) c' none 0 0 0)) ∧ OwnTm false (fun q => w.heap.size ≤ q) w' t.1 a' c' t.2 ∧ Below w.heap.size w w' := by
  obtain ⟨⟨xn, xs⟩, l⟩ := t
  dsimp only at *
  obtain ⟨b1, b2, hb0⟩ := two_new w #[.string xn, .int .i64 xs, .slice a (lenF l) c] 26 zWay 36
  have HC := hid fun (W : World) (hW : Below w.heap.size w W) => rclone_any (xn, xs) l a c W (hT.below hW)
  have HX := hid b1; have HY := hid b2; have HB0 := hid hb0
  have hz0 : Hid (w.heap.size + 2 ≤ ((w.alloc (.cells #[.string xn, .int .i64 xs, .slice a (lenF l) c] 26)).alloc (.cells zWay 36)).heap.size) := hid (by simp)
  clear hT b1 b2 hb0
  go_enter Try.func27, Try.ntmps27
  go_wp2_with (go_at_call 29; refine (HC.out _ HB0.out).mono ?_; rintro e w1 ⟨a', c', rfl, hr1, hb1⟩; have HR1 := hid hr1; have HB1 := hid (HB0.out.trans (hb1.mono HB0.out.size)); have Y1 := HY.out.below hb1; have HY1 := hid Y1; have r0 := Y1.c 0; have r1 := Y1.c 1; have r2 := Y1.c 2; have r3 := Y1.c 3; have r4 := Y1.c 4; have r5 := Y1.c 5; have r6 := Y1.c 6; have g0 := Y1.f 0; have g1 := Y1.f 1; have g2 := Y1.f 2; have g3 := Y1.f 3; have g4 := Y1.f 4; have g5 := Y1.f 5; have g6 := Y1.f 6; clear hr1 hb1 Y1)
  refine bodyPost_ret (results_cell_row rfl _ _ (w.heap.size + 1) 36 (wayC 3 nm (xn, xs) a' (lenF l) c' none 0 0 0) (0, 0) _ rfl (box7_all HY1.out _ _ _ _ _ _ _) Try.underlying36 rfl Try.size36) rfl ?_
  exact ⟨a', c', rfl, ((HR1.out.keep (fun q hq _ => sets7_far (by have := hz0.out; omega) _ _ _ _ _ _ _)).own).mono (fun q _ hq => by have := hz0.out; omega), sets7_below HB1.out (by omega) _ _ _ _ _ _ _⟩

theorem act_at (w : World) (k sym : Int) : WyAt w (.agg (wayC k noS (noS, 0) none 0 0 none 0 0 sym)) ⟨k, noS, zT, [], sym⟩ :=
  ⟨none, 0, [], none, 0, rfl, zT_at w, rfl, fun _ h => by simp at h, .inl rfl, Nat.zero_le _⟩
theorem set_at {w : World} {nm : ByteArray} {t : Tn} {a : Option Addr} {c : Nat} (h : TmAt w t.1 a c t.2) : WyAt w (.agg (wayC 3 nm t.1 a (lenF t.2) c none 0 0 0)) (setW nm t) :=
  ⟨a, c, [], none, 0, rfl, h, rfl, fun _ h => by simp at h, .inl rfl, Nat.zero_le _⟩

set_option maxRecDepth 100000 in
set_option maxHeartbeats 4000000 in
theorem rone_same (S : Option Addr) (n cap : Nat) (xn : ByteArray) (xs : Int) (l : Fo) (yn : ByteArray) (ys : Int) (m : Fo) (a b : Option Addr) (c d : Nat) (w : World) (hS : TmAt w (xn, xs) a c l) (hT : TmAt w (yn, ys) b d m)
    (hc0 : (cmpN ((xn, xs), l) ((yn, ys), m) == 0) = true) :
    Calls Try.prog 12 #[.slice S n cap, .agg #[.string xn, .int .i64 xs, .slice a (lenF l) c, .string yn, .int .i64 ys, .slice b (lenF m) d]] w fun e w' => (∃ v, e = .returned v ∧ WyAt w' v (actW 1)) ∧ Below w.heap.size w w' := by
  obtain ⟨b2, b3, b4, hb0⟩ := four_new w #[.string xn, .int .i64 xs, .slice a (lenF l) c, .string yn, .int .i64 ys, .slice b (lenF m) d] 28 zWay 36 #[.string xn, .int .i64 xs, .slice a (lenF l) c] 26 #[.string yn, .int .i64 ys, .slice b (lenF m) d] 26
  have H26 := hid fun (W : World) (hW : Below w.heap.size w W) => rsame_any ((xn, xs), l) ((yn, ys), m) a b c d W (hS.below hW) (hT.below hW)
  have HY := hid b2; have HL := hid b3; have HR := hid b4; have HB0 := hid hb0
  have hz0 : Hid (w.heap.size + 4 ≤ ((((w.alloc (.cells #[.string xn, .int .i64 xs, .slice a (lenF l) c, .string yn, .int .i64 ys, .slice b (lenF m) d] 28)).alloc (.cells zWay 36)).alloc (.cells #[.string xn, .int .i64 xs, .slice a (lenF l) c] 26)).alloc (.cells #[.string yn, .int .i64 ys, .slice b (lenF m) d] 26)).heap.size) := hid (by simp)

  rw [hc0] at H26
  clear hS hT b2 b3 b4 hb0 hc0
  dsimp only at *
  go_enter Try.func12, Try.ntmps12
  go_wp2_with (first
      | (go_at_call 26; refine (H26.out _ HB0.out).mono ?_; rintro e w1 ⟨rfl, hb1⟩; have HB1 := hid (HB0.out.trans (hb1.mono HB0.out.size)); have Y1 := HY.out.below hb1; have HY1 := hid Y1; have L1 := HL.out.below hb1; have R1 := HR.out.below hb1; have HL1 := hid L1; have HR1 := hid R1; have l0 := L1.c 0; have l1 := L1.c 1; have l2 := L1.c 2; have q0 := R1.c 0; have q1 := R1.c 1; have q2 := R1.c 2; have HZ1 : Hid (w.heap.size + 4 ≤ w1.heap.size) := hid (by have := hb1.size; have := hz0.out; omega); have r0 := Y1.c 0; have r1 := Y1.c 1; have r2 := Y1.c 2; have r3 := Y1.c 3; have r4 := Y1.c 4; have r5 := Y1.c 5; have r6 := Y1.c 6; have g0 := Y1.f 0; have g1 := Y1.f 1; have g2 := Y1.f 2; have g3 := Y1.f 3; have g4 := Y1.f 4; have g5 := Y1.f 5; have g6 := Y1.f 6; clear hb1 Y1 L1 R1))
  refine bodyPost_ret (results_cell_row rfl _ _ (w.heap.size + 1) 36 (wayC 1 noS (noS, 0) none 0 0 none 0 0 0) (0, 0) _ rfl (box7_all HY1.out _ _ _ _ _ _ _) Try.underlying36 rfl Try.size36) rfl ?_
  exact ⟨⟨_, rfl, act_at _ _ _⟩, sets7_below HB1.out (by omega) _ _ _ _ _ _ _⟩
set_option maxRecDepth 100000 in
set_option maxHeartbeats 4000000 in
theorem rone_syms (S : Option Addr) (n cap : Nat) (xn : ByteArray) (xs : Int) (l : Fo) (yn : ByteArray) (ys : Int) (m : Fo) (a b : Option Addr) (c d : Nat) (w : World) (hS : TmAt w (xn, xs) a c l) (hT : TmAt w (yn, ys) b d m)
    (hc0 : (cmpN ((xn, xs), l) ((yn, ys), m) == 0) = false) (hx : noName xn = true) (hy : noName yn = true) (hne : (xs != ys) = true) :
    Calls Try.prog 12 #[.slice S n cap, .agg #[.string xn, .int .i64 xs, .slice a (lenF l) c, .string yn, .int .i64 ys, .slice b (lenF m) d]] w fun e w' => (∃ v, e = .returned v ∧ WyAt w' v (actW 2)) ∧ Below w.heap.size w w' := by
  obtain ⟨b2, b3, b4, hb0⟩ := four_new w #[.string xn, .int .i64 xs, .slice a (lenF l) c, .string yn, .int .i64 ys, .slice b (lenF m) d] 28 zWay 36 #[.string xn, .int .i64 xs, .slice a (lenF l) c] 26 #[.string yn, .int .i64 ys, .slice b (lenF m) d] 26
  have H26 := hid fun (W : World) (hW : Below w.heap.size w W) => rsame_any ((xn, xs), l) ((yn, ys), m) a b c d W (hS.below hW) (hT.below hW)
  have HY := hid b2; have HL := hid b3; have HR := hid b4; have HB0 := hid hb0
  have hz0 : Hid (w.heap.size + 4 ≤ ((((w.alloc (.cells #[.string xn, .int .i64 xs, .slice a (lenF l) c, .string yn, .int .i64 ys, .slice b (lenF m) d] 28)).alloc (.cells zWay 36)).alloc (.cells #[.string xn, .int .i64 xs, .slice a (lenF l) c] 26)).alloc (.cells #[.string yn, .int .i64 ys, .slice b (lenF m) d] 26)).heap.size) := hid (by simp)
  unfold noName at hx hy
  rw [hc0] at H26
  clear hS hT b2 b3 b4 hb0 hc0
  dsimp only at *
  go_enter Try.func12, Try.ntmps12
  go_wp2_with (first
      | (go_at_call 26; refine (H26.out _ HB0.out).mono ?_; rintro e w1 ⟨rfl, hb1⟩; have HB1 := hid (HB0.out.trans (hb1.mono HB0.out.size)); have Y1 := HY.out.below hb1; have HY1 := hid Y1; have L1 := HL.out.below hb1; have R1 := HR.out.below hb1; have HL1 := hid L1; have HR1 := hid R1; have l0 := L1.c 0; have l1 := L1.c 1; have l2 := L1.c 2; have q0 := R1.c 0; have q1 := R1.c 1; have q2 := R1.c 2; have HZ1 : Hid (w.heap.size + 4 ≤ w1.heap.size) := hid (by have := hb1.size; have := hz0.out; omega); have r0 := Y1.c 0; have r1 := Y1.c 1; have r2 := Y1.c 2; have r3 := Y1.c 3; have r4 := Y1.c 4; have r5 := Y1.c 5; have r6 := Y1.c 6; have g0 := Y1.f 0; have g1 := Y1.f 1; have g2 := Y1.f 2; have g3 := Y1.f 3; have g4 := Y1.f 4; have g5 := Y1.f 5; have g6 := Y1.f 6; clear hb1 Y1 L1 R1))
  refine bodyPost_ret (results_cell_row rfl _ _ (w.heap.size + 1) 36 (wayC 2 noS (noS, 0) none 0 0 none 0 0 0) (0, 0) _ rfl (box7_all HY1.out _ _ _ _ _ _ _) Try.underlying36 rfl Try.size36) rfl ?_
  exact ⟨⟨_, rfl, act_at _ _ _⟩, sets7_below HB1.out (by omega) _ _ _ _ _ _ _⟩
set_option maxRecDepth 100000 in
set_option maxHeartbeats 4000000 in
theorem rone_gt (S : Option Addr) (n cap : Nat) (xn : ByteArray) (xs : Int) (l : Fo) (yn : ByteArray) (ys : Int) (m : Fo) (a b : Option Addr) (c d : Nat) (w : World) (hS : TmAt w (xn, xs) a c l) (hT : TmAt w (yn, ys) b d m)
    (hc0 : (cmpN ((xn, xs), l) ((yn, ys), m) == 0) = false) (hx : noName xn = false) (hy : noName yn = false) (h1 : Op.bytesLess xn.toList yn.toList = false) (h2 : (xn.toList == yn.toList) = false) :
    Calls Try.prog 12 #[.slice S n cap, .agg #[.string xn, .int .i64 xs, .slice a (lenF l) c, .string yn, .int .i64 ys, .slice b (lenF m) d]] w fun e w' => (∃ v, e = .returned v ∧ WyAt w' v (setW xn ((yn, ys), m))) ∧ Below w.heap.size w w' := by
  obtain ⟨b2, b3, b4, hb0⟩ := four_new w #[.string xn, .int .i64 xs, .slice a (lenF l) c, .string yn, .int .i64 ys, .slice b (lenF m) d] 28 zWay 36 #[.string xn, .int .i64 xs, .slice a (lenF l) c] 26 #[.string yn, .int .i64 ys, .slice b (lenF m) d] 26
  have H26 := hid fun (W : World) (hW : Below w.heap.size w W) => rsame_any ((xn, xs), l) ((yn, ys), m) a b c d W (hS.below hW) (hT.below hW)
  have HY := hid b2; have HL := hid b3; have HR := hid b4; have HB0 := hid hb0
  have hz0 : Hid (w.heap.size + 4 ≤ ((((w.alloc (.cells #[.string xn, .int .i64 xs, .slice a (lenF l) c, .string yn, .int .i64 ys, .slice b (lenF m) d] 28)).alloc (.cells zWay 36)).alloc (.cells #[.string xn, .int .i64 xs, .slice a (lenF l) c] 26)).alloc (.cells #[.string yn, .int .i64 ys, .slice b (lenF m) d] 26)).heap.size) := hid (by simp)
  have H27 := hid fun (W : World) (hW : Below w.heap.size w W) => rset_any xn ((yn, ys), m) b d W (hT.below hW)
  unfold noName at hx hy
  rw [hc0] at H26
  clear hS hT b2 b3 b4 hb0 hc0
  dsimp only at *
  go_enter Try.func12, Try.ntmps12
  go_wp2_with (first
      | (go_at_call 26; refine (H26.out _ HB0.out).mono ?_; rintro e w1 ⟨rfl, hb1⟩; have HB1 := hid (HB0.out.trans (hb1.mono HB0.out.size)); have Y1 := HY.out.below hb1; have HY1 := hid Y1; have L1 := HL.out.below hb1; have R1 := HR.out.below hb1; have HL1 := hid L1; have HR1 := hid R1; have l0 := L1.c 0; have l1 := L1.c 1; have l2 := L1.c 2; have q0 := R1.c 0; have q1 := R1.c 1; have q2 := R1.c 2; have HZ1 : Hid (w.heap.size + 4 ≤ w1.heap.size) := hid (by have := hb1.size; have := hz0.out; omega); clear hb1 Y1 L1 R1)
      | (go_at_call 27; refine (H27.out _ HB1.out).mono ?_; rintro e w2 ⟨a', c', rfl, ht, hb⟩; have HT2 := hid ht; have HB2 := hid (HB1.out.trans (hb.mono HB1.out.size)); have Y2 := HY1.out.below hb; have HY2 := hid Y2; have r0 := Y2.c 0; have r1 := Y2.c 1; have r2 := Y2.c 2; have r3 := Y2.c 3; have r4 := Y2.c 4; have r5 := Y2.c 5; have r6 := Y2.c 6; have g0 := Y2.f 0; have g1 := Y2.f 1; have g2 := Y2.f 2; have g3 := Y2.f 3; have g4 := Y2.f 4; have g5 := Y2.f 5; have g6 := Y2.f 6; clear ht hb Y2; unfold wayC))
  refine bodyPost_ret (results_cell_row rfl _ _ (w.heap.size + 1) 36 (wayC 3 xn (yn, ys) a' (lenF m) c' none 0 0 0) (0, 0) _ rfl (box7_all HY2.out _ _ _ _ _ _ _) Try.underlying36 rfl Try.size36) rfl ?_
  exact ⟨⟨_, rfl, set_at (t := ((yn, ys), m)) (HT2.out.keep (fun q hq _ => sets7_far (by have := HZ1.out; omega) _ _ _ _ _ _ _)).tm⟩, sets7_below HB2.out (by omega) _ _ _ _ _ _ _⟩
set_option maxRecDepth 100000 in
set_option maxHeartbeats 4000000 in
theorem rone_le (S : Option Addr) (n cap : Nat) (xn : ByteArray) (xs : Int) (l : Fo) (yn : ByteArray) (ys : Int) (m : Fo) (a b : Option Addr) (c d : Nat) (w : World) (hS : TmAt w (xn, xs) a c l) (hT : TmAt w (yn, ys) b d m)
    (hc0 : (cmpN ((xn, xs), l) ((yn, ys), m) == 0) = false) (hx : noName xn = false) (hy : noName yn = false) (h1 : Op.bytesLess xn.toList yn.toList = true) :
    Calls Try.prog 12 #[.slice S n cap, .agg #[.string xn, .int .i64 xs, .slice a (lenF l) c, .string yn, .int .i64 ys, .slice b (lenF m) d]] w fun e w' => (∃ v, e = .returned v ∧ WyAt w' v (setW yn ((xn, xs), l))) ∧ Below w.heap.size w w' := by
  obtain ⟨b2, b3, b4, hb0⟩ := four_new w #[.string xn, .int .i64 xs, .slice a (lenF l) c, .string yn, .int .i64 ys, .slice b (lenF m) d] 28 zWay 36 #[.string xn, .int .i64 xs, .slice a (lenF l) c] 26 #[.string yn, .int .i64 ys, .slice b (lenF m) d] 26
  have H26 := hid fun (W : World) (hW : Below w.heap.size w W) => rsame_any ((xn, xs), l) ((yn, ys), m) a b c d W (hS.below hW) (hT.below hW)
  have HY := hid b2; have HL := hid b3; have HR := hid b4; have HB0 := hid hb0
  have hz0 : Hid (w.heap.size + 4 ≤ ((((w.alloc (.cells #[.string xn, .int .i64 xs, .slice a (lenF l) c, .string yn, .int .i64 ys, .slice b (lenF m) d] 28)).alloc (.cells zWay 36)).alloc (.cells #[.string xn, .int .i64 xs, .slice a (lenF l) c] 26)).alloc (.cells #[.string yn, .int .i64 ys, .slice b (lenF m) d] 26)).heap.size) := hid (by simp)
  have H27 := hid fun (W : World) (hW : Below w.heap.size w W) => rset_any yn ((xn, xs), l) a c W (hS.below hW)
  unfold noName at hx hy
  rw [hc0] at H26
  clear hS hT b2 b3 b4 hb0 hc0
  dsimp only at *
  go_enter Try.func12, Try.ntmps12
  go_wp2_with (first
      | (go_at_call 26; refine (H26.out _ HB0.out).mono ?_; rintro e w1 ⟨rfl, hb1⟩; have HB1 := hid (HB0.out.trans (hb1.mono HB0.out.size)); have Y1 := HY.out.below hb1; have HY1 := hid Y1; have L1 := HL.out.below hb1; have R1 := HR.out.below hb1; have HL1 := hid L1; have HR1 := hid R1; have l0 := L1.c 0; have l1 := L1.c 1; have l2 := L1.c 2; have q0 := R1.c 0; have q1 := R1.c 1; have q2 := R1.c 2; have HZ1 : Hid (w.heap.size + 4 ≤ w1.heap.size) := hid (by have := hb1.size; have := hz0.out; omega); clear hb1 Y1 L1 R1)
      | (go_at_call 27; refine (H27.out _ HB1.out).mono ?_; rintro e w2 ⟨a', c', rfl, ht, hb⟩; have HT2 := hid ht; have HB2 := hid (HB1.out.trans (hb.mono HB1.out.size)); have Y2 := HY1.out.below hb; have HY2 := hid Y2; have r0 := Y2.c 0; have r1 := Y2.c 1; have r2 := Y2.c 2; have r3 := Y2.c 3; have r4 := Y2.c 4; have r5 := Y2.c 5; have r6 := Y2.c 6; have g0 := Y2.f 0; have g1 := Y2.f 1; have g2 := Y2.f 2; have g3 := Y2.f 3; have g4 := Y2.f 4; have g5 := Y2.f 5; have g6 := Y2.f 6; clear ht hb Y2; unfold wayC))
  refine bodyPost_ret (results_cell_row rfl _ _ (w.heap.size + 1) 36 (wayC 3 yn (xn, xs) a' (lenF l) c' none 0 0 0) (0, 0) _ rfl (box7_all HY2.out _ _ _ _ _ _ _) Try.underlying36 rfl Try.size36) rfl ?_
  exact ⟨⟨_, rfl, set_at (t := ((xn, xs), l)) (HT2.out.keep (fun q hq _ => sets7_far (by have := HZ1.out; omega) _ _ _ _ _ _ _)).tm⟩, sets7_below HB2.out (by omega) _ _ _ _ _ _ _⟩
set_option maxRecDepth 100000 in
set_option maxHeartbeats 4000000 in
theorem rone_lhas (S : Option Addr) (n cap : Nat) (xn : ByteArray) (xs : Int) (l : Fo) (yn : ByteArray) (ys : Int) (m : Fo) (a b : Option Addr) (c d : Nat) (w : World) (hS : TmAt w (xn, xs) a c l) (hT : TmAt w (yn, ys) b d m)
    (hc0 : (cmpN ((xn, xs), l) ((yn, ys), m) == 0) = false) (hx : noName xn = false) (hy : noName yn = true) (hh : hasR xn (yn, ys) m = true) :
    Calls Try.prog 12 #[.slice S n cap, .agg #[.string xn, .int .i64 xs, .slice a (lenF l) c, .string yn, .int .i64 ys, .slice b (lenF m) d]] w fun e w' => (∃ v, e = .returned v ∧ WyAt w' v (actW 2)) ∧ Below w.heap.size w w' := by
  obtain ⟨b2, b3, b4, hb0⟩ := four_new w #[.string xn, .int .i64 xs, .slice a (lenF l) c, .string yn, .int .i64 ys, .slice b (lenF m) d] 28 zWay 36 #[.string xn, .int .i64 xs, .slice a (lenF l) c] 26 #[.string yn, .int .i64 ys, .slice b (lenF m) d] 26
  have H26 := hid fun (W : World) (hW : Below w.heap.size w W) => rsame_any ((xn, xs), l) ((yn, ys), m) a b c d W (hS.below hW) (hT.below hW)
  have HY := hid b2; have HL := hid b3; have HR := hid b4; have HB0 := hid hb0
  have hz0 : Hid (w.heap.size + 4 ≤ ((((w.alloc (.cells #[.string xn, .int .i64 xs, .slice a (lenF l) c, .string yn, .int .i64 ys, .slice b (lenF m) d] 28)).alloc (.cells zWay 36)).alloc (.cells #[.string xn, .int .i64 xs, .slice a (lenF l) c] 26)).alloc (.cells #[.string yn, .int .i64 ys, .slice b (lenF m) d] 26)).heap.size) := hid (by simp)
  have H28 := hid fun (W : World) (hW : Below w.heap.size w W) => rhas_all _ xn (yn, ys) m b d W (Nat.le_refl _) (hT.below hW)
  rw [hh] at H28
  unfold noName at hx hy
  rw [hc0] at H26
  clear hS hT b2 b3 b4 hb0 hc0
  dsimp only at *
  go_enter Try.func12, Try.ntmps12
  go_wp2_with (first
      | (go_at_call 26; refine (H26.out _ HB0.out).mono ?_; rintro e w1 ⟨rfl, hb1⟩; have HB1 := hid (HB0.out.trans (hb1.mono HB0.out.size)); have Y1 := HY.out.below hb1; have HY1 := hid Y1; have L1 := HL.out.below hb1; have R1 := HR.out.below hb1; have HL1 := hid L1; have HR1 := hid R1; have l0 := L1.c 0; have l1 := L1.c 1; have l2 := L1.c 2; have q0 := R1.c 0; have q1 := R1.c 1; have q2 := R1.c 2; have HZ1 : Hid (w.heap.size + 4 ≤ w1.heap.size) := hid (by have := hb1.size; have := hz0.out; omega); clear hb1 Y1 L1 R1)
      | (go_at_call 28; refine (H28.out _ HB1.out).mono ?_; rintro e w2 ⟨rfl, hb2⟩; have HB2 := hid (HB1.out.trans (hb2.mono HB1.out.size)); have Y2 := HY1.out.below hb2; have HY2 := hid Y2; have L2 := HL1.out.below hb2; have R2 := HR1.out.below hb2; have m0 := L2.c 0; have m1 := L2.c 1; have m2 := L2.c 2; have p0 := R2.c 0; have p1 := R2.c 1; have p2 := R2.c 2; have HZ2 : Hid (w.heap.size + 4 ≤ w2.heap.size) := hid (by have := hb2.size; have := HZ1.out; omega); have r0 := Y2.c 0; have r1 := Y2.c 1; have r2 := Y2.c 2; have r3 := Y2.c 3; have r4 := Y2.c 4; have r5 := Y2.c 5; have r6 := Y2.c 6; have g0 := Y2.f 0; have g1 := Y2.f 1; have g2 := Y2.f 2; have g3 := Y2.f 3; have g4 := Y2.f 4; have g5 := Y2.f 5; have g6 := Y2.f 6; clear hb2 Y2 L2 R2))
  refine bodyPost_ret (results_cell_row rfl _ _ (w.heap.size + 1) 36 (wayC 2 noS (noS, 0) none 0 0 none 0 0 0) (0, 0) _ rfl (box7_all HY2.out _ _ _ _ _ _ _) Try.underlying36 rfl Try.size36) rfl ?_
  exact ⟨⟨_, rfl, act_at _ _ _⟩, sets7_below HB2.out (by omega) _ _ _ _ _ _ _⟩
set_option maxRecDepth 100000 in
set_option maxHeartbeats 4000000 in
theorem rone_lset (S : Option Addr) (n cap : Nat) (xn : ByteArray) (xs : Int) (l : Fo) (yn : ByteArray) (ys : Int) (m : Fo) (a b : Option Addr) (c d : Nat) (w : World) (hS : TmAt w (xn, xs) a c l) (hT : TmAt w (yn, ys) b d m)
    (hc0 : (cmpN ((xn, xs), l) ((yn, ys), m) == 0) = false) (hx : noName xn = false) (hy : noName yn = true) (hh : hasR xn (yn, ys) m = false) :
    Calls Try.prog 12 #[.slice S n cap, .agg #[.string xn, .int .i64 xs, .slice a (lenF l) c, .string yn, .int .i64 ys, .slice b (lenF m) d]] w fun e w' => (∃ v, e = .returned v ∧ WyAt w' v (setW xn ((yn, ys), m))) ∧ Below w.heap.size w w' := by
  obtain ⟨b2, b3, b4, hb0⟩ := four_new w #[.string xn, .int .i64 xs, .slice a (lenF l) c, .string yn, .int .i64 ys, .slice b (lenF m) d] 28 zWay 36 #[.string xn, .int .i64 xs, .slice a (lenF l) c] 26 #[.string yn, .int .i64 ys, .slice b (lenF m) d] 26
  have H26 := hid fun (W : World) (hW : Below w.heap.size w W) => rsame_any ((xn, xs), l) ((yn, ys), m) a b c d W (hS.below hW) (hT.below hW)
  have HY := hid b2; have HL := hid b3; have HR := hid b4; have HB0 := hid hb0
  have hz0 : Hid (w.heap.size + 4 ≤ ((((w.alloc (.cells #[.string xn, .int .i64 xs, .slice a (lenF l) c, .string yn, .int .i64 ys, .slice b (lenF m) d] 28)).alloc (.cells zWay 36)).alloc (.cells #[.string xn, .int .i64 xs, .slice a (lenF l) c] 26)).alloc (.cells #[.string yn, .int .i64 ys, .slice b (lenF m) d] 26)).heap.size) := hid (by simp)
  have H27 := hid fun (W : World) (hW : Below w.heap.size w W) => rset_any xn ((yn, ys), m) b d W (hT.below hW)
  have H28 := hid fun (W : World) (hW : Below w.heap.size w W) => rhas_all _ xn (yn, ys) m b d W (Nat.le_refl _) (hT.below hW)
  rw [hh] at H28
  unfold noName at hx hy
  rw [hc0] at H26
  clear hS hT b2 b3 b4 hb0 hc0
  dsimp only at *
  go_enter Try.func12, Try.ntmps12
  go_wp2_with (first
      | (go_at_call 26; refine (H26.out _ HB0.out).mono ?_; rintro e w1 ⟨rfl, hb1⟩; have HB1 := hid (HB0.out.trans (hb1.mono HB0.out.size)); have Y1 := HY.out.below hb1; have HY1 := hid Y1; have L1 := HL.out.below hb1; have R1 := HR.out.below hb1; have HL1 := hid L1; have HR1 := hid R1; have l0 := L1.c 0; have l1 := L1.c 1; have l2 := L1.c 2; have q0 := R1.c 0; have q1 := R1.c 1; have q2 := R1.c 2; have HZ1 : Hid (w.heap.size + 4 ≤ w1.heap.size) := hid (by have := hb1.size; have := hz0.out; omega); clear hb1 Y1 L1 R1)
      | (go_at_call 28; refine (H28.out _ HB1.out).mono ?_; rintro e w2 ⟨rfl, hb2⟩; have HB2 := hid (HB1.out.trans (hb2.mono HB1.out.size)); have Y2 := HY1.out.below hb2; have HY2 := hid Y2; have L2 := HL1.out.below hb2; have R2 := HR1.out.below hb2; have m0 := L2.c 0; have m1 := L2.c 1; have m2 := L2.c 2; have p0 := R2.c 0; have p1 := R2.c 1; have p2 := R2.c 2; have HZ2 : Hid (w.heap.size + 4 ≤ w2.heap.size) := hid (by have := hb2.size; have := HZ1.out; omega); clear hb2 Y2 L2 R2)
      | (go_at_call 27; refine (H27.out _ HB2.out).mono ?_; rintro e w3 ⟨a', c', rfl, ht, hb⟩; have HT3 := hid ht; have HB3 := hid (HB2.out.trans (hb.mono HB2.out.size)); have Y3 := HY2.out.below hb; have HY3 := hid Y3; have r0 := Y3.c 0; have r1 := Y3.c 1; have r2 := Y3.c 2; have r3 := Y3.c 3; have r4 := Y3.c 4; have r5 := Y3.c 5; have r6 := Y3.c 6; have g0 := Y3.f 0; have g1 := Y3.f 1; have g2 := Y3.f 2; have g3 := Y3.f 3; have g4 := Y3.f 4; have g5 := Y3.f 5; have g6 := Y3.f 6; clear ht hb Y3; unfold wayC))
  refine bodyPost_ret (results_cell_row rfl _ _ (w.heap.size + 1) 36 (wayC 3 xn (yn, ys) a' (lenF m) c' none 0 0 0) (0, 0) _ rfl (box7_all HY3.out _ _ _ _ _ _ _) Try.underlying36 rfl Try.size36) rfl ?_
  exact ⟨⟨_, rfl, set_at (t := ((yn, ys), m)) (HT3.out.keep (fun q hq _ => sets7_far (by have := HZ2.out; omega) _ _ _ _ _ _ _)).tm⟩, sets7_below HB3.out (by omega) _ _ _ _ _ _ _⟩
set_option maxRecDepth 100000 in
set_option maxHeartbeats 4000000 in
theorem rone_rhas (S : Option Addr) (n cap : Nat) (xn : ByteArray) (xs : Int) (l : Fo) (yn : ByteArray) (ys : Int) (m : Fo) (a b : Option Addr) (c d : Nat) (w : World) (hS : TmAt w (xn, xs) a c l) (hT : TmAt w (yn, ys) b d m)
    (hc0 : (cmpN ((xn, xs), l) ((yn, ys), m) == 0) = false) (hx : noName xn = true) (hy : noName yn = false) (hh : hasR yn (xn, xs) l = true) :
    Calls Try.prog 12 #[.slice S n cap, .agg #[.string xn, .int .i64 xs, .slice a (lenF l) c, .string yn, .int .i64 ys, .slice b (lenF m) d]] w fun e w' => (∃ v, e = .returned v ∧ WyAt w' v (actW 2)) ∧ Below w.heap.size w w' := by
  obtain ⟨b2, b3, b4, hb0⟩ := four_new w #[.string xn, .int .i64 xs, .slice a (lenF l) c, .string yn, .int .i64 ys, .slice b (lenF m) d] 28 zWay 36 #[.string xn, .int .i64 xs, .slice a (lenF l) c] 26 #[.string yn, .int .i64 ys, .slice b (lenF m) d] 26
  have H26 := hid fun (W : World) (hW : Below w.heap.size w W) => rsame_any ((xn, xs), l) ((yn, ys), m) a b c d W (hS.below hW) (hT.below hW)
  have HY := hid b2; have HL := hid b3; have HR := hid b4; have HB0 := hid hb0
  have hz0 : Hid (w.heap.size + 4 ≤ ((((w.alloc (.cells #[.string xn, .int .i64 xs, .slice a (lenF l) c, .string yn, .int .i64 ys, .slice b (lenF m) d] 28)).alloc (.cells zWay 36)).alloc (.cells #[.string xn, .int .i64 xs, .slice a (lenF l) c] 26)).alloc (.cells #[.string yn, .int .i64 ys, .slice b (lenF m) d] 26)).heap.size) := hid (by simp)
  have H28 := hid fun (W : World) (hW : Below w.heap.size w W) => rhas_all _ yn (xn, xs) l a c W (Nat.le_refl _) (hS.below hW)
  rw [hh] at H28
  unfold noName at hx hy
  rw [hc0] at H26
  clear hS hT b2 b3 b4 hb0 hc0
  dsimp only at *
  go_enter Try.func12, Try.ntmps12
  go_wp2_with (first
      | (go_at_call 26; refine (H26.out _ HB0.out).mono ?_; rintro e w1 ⟨rfl, hb1⟩; have HB1 := hid (HB0.out.trans (hb1.mono HB0.out.size)); have Y1 := HY.out.below hb1; have HY1 := hid Y1; have L1 := HL.out.below hb1; have R1 := HR.out.below hb1; have HL1 := hid L1; have HR1 := hid R1; have l0 := L1.c 0; have l1 := L1.c 1; have l2 := L1.c 2; have q0 := R1.c 0; have q1 := R1.c 1; have q2 := R1.c 2; have HZ1 : Hid (w.heap.size + 4 ≤ w1.heap.size) := hid (by have := hb1.size; have := hz0.out; omega); clear hb1 Y1 L1 R1)
      | (go_at_call 28; refine (H28.out _ HB1.out).mono ?_; rintro e w2 ⟨rfl, hb2⟩; have HB2 := hid (HB1.out.trans (hb2.mono HB1.out.size)); have Y2 := HY1.out.below hb2; have HY2 := hid Y2; have L2 := HL1.out.below hb2; have R2 := HR1.out.below hb2; have m0 := L2.c 0; have m1 := L2.c 1; have m2 := L2.c 2; have p0 := R2.c 0; have p1 := R2.c 1; have p2 := R2.c 2; have HZ2 : Hid (w.heap.size + 4 ≤ w2.heap.size) := hid (by have := hb2.size; have := HZ1.out; omega); have r0 := Y2.c 0; have r1 := Y2.c 1; have r2 := Y2.c 2; have r3 := Y2.c 3; have r4 := Y2.c 4; have r5 := Y2.c 5; have r6 := Y2.c 6; have g0 := Y2.f 0; have g1 := Y2.f 1; have g2 := Y2.f 2; have g3 := Y2.f 3; have g4 := Y2.f 4; have g5 := Y2.f 5; have g6 := Y2.f 6; clear hb2 Y2 L2 R2))
  refine bodyPost_ret (results_cell_row rfl _ _ (w.heap.size + 1) 36 (wayC 2 noS (noS, 0) none 0 0 none 0 0 0) (0, 0) _ rfl (box7_all HY2.out _ _ _ _ _ _ _) Try.underlying36 rfl Try.size36) rfl ?_
  exact ⟨⟨_, rfl, act_at _ _ _⟩, sets7_below HB2.out (by omega) _ _ _ _ _ _ _⟩
set_option maxRecDepth 100000 in
set_option maxHeartbeats 4000000 in
theorem rone_rset (S : Option Addr) (n cap : Nat) (xn : ByteArray) (xs : Int) (l : Fo) (yn : ByteArray) (ys : Int) (m : Fo) (a b : Option Addr) (c d : Nat) (w : World) (hS : TmAt w (xn, xs) a c l) (hT : TmAt w (yn, ys) b d m)
    (hc0 : (cmpN ((xn, xs), l) ((yn, ys), m) == 0) = false) (hx : noName xn = true) (hy : noName yn = false) (hh : hasR yn (xn, xs) l = false) :
    Calls Try.prog 12 #[.slice S n cap, .agg #[.string xn, .int .i64 xs, .slice a (lenF l) c, .string yn, .int .i64 ys, .slice b (lenF m) d]] w fun e w' => (∃ v, e = .returned v ∧ WyAt w' v (setW yn ((xn, xs), l))) ∧ Below w.heap.size w w' := by
  obtain ⟨b2, b3, b4, hb0⟩ := four_new w #[.string xn, .int .i64 xs, .slice a (lenF l) c, .string yn, .int .i64 ys, .slice b (lenF m) d] 28 zWay 36 #[.string xn, .int .i64 xs, .slice a (lenF l) c] 26 #[.string yn, .int .i64 ys, .slice b (lenF m) d] 26
  have H26 := hid fun (W : World) (hW : Below w.heap.size w W) => rsame_any ((xn, xs), l) ((yn, ys), m) a b c d W (hS.below hW) (hT.below hW)
  have HY := hid b2; have HL := hid b3; have HR := hid b4; have HB0 := hid hb0
  have hz0 : Hid (w.heap.size + 4 ≤ ((((w.alloc (.cells #[.string xn, .int .i64 xs, .slice a (lenF l) c, .string yn, .int .i64 ys, .slice b (lenF m) d] 28)).alloc (.cells zWay 36)).alloc (.cells #[.string xn, .int .i64 xs, .slice a (lenF l) c] 26)).alloc (.cells #[.string yn, .int .i64 ys, .slice b (lenF m) d] 26)).heap.size) := hid (by simp)
  have H27 := hid fun (W : World) (hW : Below w.heap.size w W) => rset_any yn ((xn, xs), l) a c W (hS.below hW)
  have H28 := hid fun (W : World) (hW : Below w.heap.size w W) => rhas_all _ yn (xn, xs) l a c W (Nat.le_refl _) (hS.below hW)
  rw [hh] at H28
  unfold noName at hx hy
  rw [hc0] at H26
  clear hS hT b2 b3 b4 hb0 hc0
  dsimp only at *
  go_enter Try.func12, Try.ntmps12
  go_wp2_with (first
      | (go_at_call 26; refine (H26.out _ HB0.out).mono ?_; rintro e w1 ⟨rfl, hb1⟩; have HB1 := hid (HB0.out.trans (hb1.mono HB0.out.size)); have Y1 := HY.out.below hb1; have HY1 := hid Y1; have L1 := HL.out.below hb1; have R1 := HR.out.below hb1; have HL1 := hid L1; have HR1 := hid R1; have l0 := L1.c 0; have l1 := L1.c 1; have l2 := L1.c 2; have q0 := R1.c 0; have q1 := R1.c 1; have q2 := R1.c 2; have HZ1 : Hid (w.heap.size + 4 ≤ w1.heap.size) := hid (by have := hb1.size; have := hz0.out; omega); clear hb1 Y1 L1 R1)
      | (go_at_call 28; refine (H28.out _ HB1.out).mono ?_; rintro e w2 ⟨rfl, hb2⟩; have HB2 := hid (HB1.out.trans (hb2.mono HB1.out.size)); have Y2 := HY1.out.below hb2; have HY2 := hid Y2; have L2 := HL1.out.below hb2; have R2 := HR1.out.below hb2; have m0 := L2.c 0; have m1 := L2.c 1; have m2 := L2.c 2; have p0 := R2.c 0; have p1 := R2.c 1; have p2 := R2.c 2; have HZ2 : Hid (w.heap.size + 4 ≤ w2.heap.size) := hid (by have := hb2.size; have := HZ1.out; omega); clear hb2 Y2 L2 R2)
      | (go_at_call 27; refine (H27.out _ HB2.out).mono ?_; rintro e w3 ⟨a', c', rfl, ht, hb⟩; have HT3 := hid ht; have HB3 := hid (HB2.out.trans (hb.mono HB2.out.size)); have Y3 := HY2.out.below hb; have HY3 := hid Y3; have r0 := Y3.c 0; have r1 := Y3.c 1; have r2 := Y3.c 2; have r3 := Y3.c 3; have r4 := Y3.c 4; have r5 := Y3.c 5; have r6 := Y3.c 6; have g0 := Y3.f 0; have g1 := Y3.f 1; have g2 := Y3.f 2; have g3 := Y3.f 3; have g4 := Y3.f 4; have g5 := Y3.f 5; have g6 := Y3.f 6; clear ht hb Y3; unfold wayC))
  refine bodyPost_ret (results_cell_row rfl _ _ (w.heap.size + 1) 36 (wayC 3 yn (xn, xs) a' (lenF l) c' none 0 0 0) (0, 0) _ rfl (box7_all HY3.out _ _ _ _ _ _ _) Try.underlying36 rfl Try.size36) rfl ?_
  exact ⟨⟨_, rfl, set_at (t := ((xn, xs), l)) (HT3.out.keep (fun q hq _ => sets7_far (by have := HZ2.out; omega) _ _ _ _ _ _ _)).tm⟩, sets7_below HB3.out (by omega) _ _ _ _ _ _ _⟩
set_option maxRecDepth 100000 in
set_option maxHeartbeats 4000000 in
theorem rone_pure (S : Option Addr) (n cap : Nat) (sg : List Sym) (xn : ByteArray) (xs : Int) (l : Fo) (yn : ByteArray) (ys : Int) (m : Fo) (a b : Option Addr) (c d : Nat) (w : World) (hG : SigAt w S n sg) (hS : TmAt w (xn, xs) a c l) (hT : TmAt w (yn, ys) b d m)
    (hc0 : (cmpN ((xn, xs), l) ((yn, ys), m) == 0) = false) (hx : noName xn = true) (hy : noName yn = true) (he : ys = xs) (h0 : 0 ≤ xs) (h1 : xs < sg.length) (hk : (kindAt sg xs != 1) = true) :
    Calls Try.prog 12 #[.slice S n cap, .agg #[.string xn, .int .i64 xs, .slice a (lenF l) c, .string yn, .int .i64 ys, .slice b (lenF m) d]] w fun e w' => (∃ v, e = .returned v ∧ WyAt w' v (⟨5, noS, zT, [], xs⟩)) ∧ Below w.heap.size w w' := by
  obtain ⟨b2, b3, b4, hb0⟩ := four_new w #[.string xn, .int .i64 xs, .slice a (lenF l) c, .string yn, .int .i64 ys, .slice b (lenF m) d] 28 zWay 36 #[.string xn, .int .i64 xs, .slice a (lenF l) c] 26 #[.string yn, .int .i64 ys, .slice b (lenF m) d] 26
  have H26 := hid fun (W : World) (hW : Below w.heap.size w W) => rsame_any ((xn, xs), l) ((yn, ys), m) a b c d W (hS.below hW) (hT.below hW)
  have HY := hid b2; have HL := hid b3; have HR := hid b4; have HB0 := hid hb0
  have hz0 : Hid (w.heap.size + 4 ≤ ((((w.alloc (.cells #[.string xn, .int .i64 xs, .slice a (lenF l) c, .string yn, .int .i64 ys, .slice b (lenF m) d] 28)).alloc (.cells zWay 36)).alloc (.cells #[.string xn, .int .i64 xs, .slice a (lenF l) c] 26)).alloc (.cells #[.string yn, .int .i64 ys, .slice b (lenF m) d] 26)).heap.size) := hid (by simp)
  obtain ⟨i, rfl⟩ : ∃ i : Nat, xs = i := ⟨xs.toNat, by omega⟩
  subst he
  have hi : i < sg.length := by omega
  have hlen := hG.len
  obtain ⟨sb, off, rfl, hy0⟩ := hG.cells i hi
  have HSY := hid hy0
  have hkk : kindAt sg i = sg[i].kind := by unfold kindAt; rw [Int.toNat_natCast, List.getElem?_eq_getElem hi]
  rw [hkk] at hk
  obtain ⟨kd, hkd⟩ : ∃ kd, sg[i].kind = kd := ⟨_, rfl⟩
  rw [hkd] at hk
  have HCK : Hid (∀ W, Below w.heap.size w W → W.cell? ⟨sb, off + i * 4 + 1, none⟩ = some (.int .i64 kd)) := hid (fun W hW => by rw [← hkd]; exact below_cell hW _ _ hy0.kind)
  have hne : ((i : Int) != (i : Int)) = false := by simp
  have hi2 : (i : Int) < (n : Int) := by omega
  have hi1 : (0 : Int) ≤ (i : Int) := by omega
  clear hkk hkd hy0 HSY hG h0 h1
  unfold noName at hx hy
  rw [hc0] at H26
  clear hS hT b2 b3 b4 hb0 hc0
  dsimp only at *
  go_enter Try.func12, Try.ntmps12
  go_wp2_with (first
      | (go_at_call 26; refine (H26.out _ HB0.out).mono ?_; rintro e w1 ⟨rfl, hb1⟩; have HB1 := hid (HB0.out.trans (hb1.mono HB0.out.size)); have Y1 := HY.out.below hb1; have HY1 := hid Y1; have L1 := HL.out.below hb1; have R1 := HR.out.below hb1; have HL1 := hid L1; have HR1 := hid R1; have l0 := L1.c 0; have l1 := L1.c 1; have l2 := L1.c 2; have q0 := R1.c 0; have q1 := R1.c 1; have q2 := R1.c 2; have ck := HCK.out _ HB1.out; have HZ1 : Hid (w.heap.size + 4 ≤ w1.heap.size) := hid (by have := hb1.size; have := hz0.out; omega); have r0 := Y1.c 0; have r1 := Y1.c 1; have r2 := Y1.c 2; have r3 := Y1.c 3; have r4 := Y1.c 4; have r5 := Y1.c 5; have r6 := Y1.c 6; have g0 := Y1.f 0; have g1 := Y1.f 1; have g2 := Y1.f 2; have g3 := Y1.f 3; have g4 := Y1.f 4; have g5 := Y1.f 5; have g6 := Y1.f 6; clear hb1 Y1 L1 R1))
  refine bodyPost_ret (results_cell_row rfl _ _ (w.heap.size + 1) 36 (wayC 5 noS (noS, 0) none 0 0 none 0 0 i) (0, 0) _ rfl (box7_all HY1.out _ _ _ _ _ _ _) Try.underlying36 rfl Try.size36) rfl ?_
  exact ⟨⟨_, rfl, act_at _ _ _⟩, sets7_below HB1.out (by omega) _ _ _ _ _ _ _⟩
set_option maxRecDepth 100000 in
set_option maxHeartbeats 4000000 in
theorem rone_lens (S : Option Addr) (n cap : Nat) (sg : List Sym) (xn : ByteArray) (xs : Int) (l : Fo) (yn : ByteArray) (ys : Int) (m : Fo) (a b : Option Addr) (c d : Nat) (w : World) (hG : SigAt w S n sg) (hS : TmAt w (xn, xs) a c l) (hT : TmAt w (yn, ys) b d m)
    (hc0 : (cmpN ((xn, xs), l) ((yn, ys), m) == 0) = false) (hx : noName xn = true) (hy : noName yn = true) (he : ys = xs) (h0 : 0 ≤ xs) (h1 : xs < sg.length) (hk : (kindAt sg xs != 1) = false) (hl : ((lenF l : Int) != (lenF m : Int)) = true) :
    Calls Try.prog 12 #[.slice S n cap, .agg #[.string xn, .int .i64 xs, .slice a (lenF l) c, .string yn, .int .i64 ys, .slice b (lenF m) d]] w fun e w' => (∃ v, e = .returned v ∧ WyAt w' v (actW 2)) ∧ Below w.heap.size w w' := by
  obtain ⟨b2, b3, b4, hb0⟩ := four_new w #[.string xn, .int .i64 xs, .slice a (lenF l) c, .string yn, .int .i64 ys, .slice b (lenF m) d] 28 zWay 36 #[.string xn, .int .i64 xs, .slice a (lenF l) c] 26 #[.string yn, .int .i64 ys, .slice b (lenF m) d] 26
  have H26 := hid fun (W : World) (hW : Below w.heap.size w W) => rsame_any ((xn, xs), l) ((yn, ys), m) a b c d W (hS.below hW) (hT.below hW)
  have HY := hid b2; have HL := hid b3; have HR := hid b4; have HB0 := hid hb0
  have hz0 : Hid (w.heap.size + 4 ≤ ((((w.alloc (.cells #[.string xn, .int .i64 xs, .slice a (lenF l) c, .string yn, .int .i64 ys, .slice b (lenF m) d] 28)).alloc (.cells zWay 36)).alloc (.cells #[.string xn, .int .i64 xs, .slice a (lenF l) c] 26)).alloc (.cells #[.string yn, .int .i64 ys, .slice b (lenF m) d] 26)).heap.size) := hid (by simp)
  obtain ⟨i, rfl⟩ : ∃ i : Nat, xs = i := ⟨xs.toNat, by omega⟩
  subst he
  have hi : i < sg.length := by omega
  have hlen := hG.len
  obtain ⟨sb, off, rfl, hy0⟩ := hG.cells i hi
  have HSY := hid hy0
  have hkk : kindAt sg i = sg[i].kind := by unfold kindAt; rw [Int.toNat_natCast, List.getElem?_eq_getElem hi]
  rw [hkk] at hk
  obtain ⟨kd, hkd⟩ : ∃ kd, sg[i].kind = kd := ⟨_, rfl⟩
  rw [hkd] at hk
  have HCK : Hid (∀ W, Below w.heap.size w W → W.cell? ⟨sb, off + i * 4 + 1, none⟩ = some (.int .i64 kd)) := hid (fun W hW => by rw [← hkd]; exact below_cell hW _ _ hy0.kind)
  have hne : ((i : Int) != (i : Int)) = false := by simp
  have hi2 : (i : Int) < (n : Int) := by omega
  have hi1 : (0 : Int) ≤ (i : Int) := by omega
  clear hkk hkd hy0 HSY hG h0 h1
  unfold noName at hx hy
  rw [hc0] at H26
  clear hS hT b2 b3 b4 hb0 hc0
  dsimp only at *
  go_enter Try.func12, Try.ntmps12
  go_wp2_with (first
      | (go_at_call 26; refine (H26.out _ HB0.out).mono ?_; rintro e w1 ⟨rfl, hb1⟩; have HB1 := hid (HB0.out.trans (hb1.mono HB0.out.size)); have Y1 := HY.out.below hb1; have HY1 := hid Y1; have L1 := HL.out.below hb1; have R1 := HR.out.below hb1; have HL1 := hid L1; have HR1 := hid R1; have l0 := L1.c 0; have l1 := L1.c 1; have l2 := L1.c 2; have q0 := R1.c 0; have q1 := R1.c 1; have q2 := R1.c 2; have ck := HCK.out _ HB1.out; have HZ1 : Hid (w.heap.size + 4 ≤ w1.heap.size) := hid (by have := hb1.size; have := hz0.out; omega); have r0 := Y1.c 0; have r1 := Y1.c 1; have r2 := Y1.c 2; have r3 := Y1.c 3; have r4 := Y1.c 4; have r5 := Y1.c 5; have r6 := Y1.c 6; have g0 := Y1.f 0; have g1 := Y1.f 1; have g2 := Y1.f 2; have g3 := Y1.f 3; have g4 := Y1.f 4; have g5 := Y1.f 5; have g6 := Y1.f 6; clear hb1 Y1 L1 R1))
  refine bodyPost_ret (results_cell_row rfl _ _ (w.heap.size + 1) 36 (wayC 2 noS (noS, 0) none 0 0 none 0 0 0) (0, 0) _ rfl (box7_all HY1.out _ _ _ _ _ _ _) Try.underlying36 rfl Try.size36) rfl ?_
  exact ⟨⟨_, rfl, act_at _ _ _⟩, sets7_below HB1.out (by omega) _ _ _ _ _ _ _⟩
end Go.Proofs.Ytfnfbljijkjkjaa
