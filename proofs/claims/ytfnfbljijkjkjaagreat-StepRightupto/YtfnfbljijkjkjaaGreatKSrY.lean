import Derived.Test.YtfnfbljijkjkjaaGreatKSrX
/- The walk of StepRight, where a variable is set. -/
namespace Go.Proofs.YtfnfbljijkjkjaaGreat
open Go.RowKit Go.Deep

set_option maxRecDepth 100000 in
set_option maxHeartbeats 8000000 in
theorem right_set (S : Option Addr) (n cap : Nat) (sg : List Sym) (xn yn : ByteArray) (xs ys : Int) (l m : Fo) (a b : Option Addr) (c d : Nat) (p : Option Addr) (pc : Nat) (bs : List Bn) (w : World) (hG : SigAt w S n sg) (hS : TmAt w (xn, xs) a c l) (hU : TmAt w (yn, ys) b d m) (hB : BindsAt w p bs.length bs) (hM : nodesF l ≤ 1048576) (hN : nodesF m ≤ 1048576) (hsg : n ≤ 1048576) (hbl : bs.length ≤ 1048576) (hnd : ∀ b ∈ bs, nodesF b.2.2 ≤ 1048576) (hp : plainB sg ((xn, xs), l) ((yn, ys), m) = true) (hc : decide ((chkB (sg.map plainS) bs none 0).1 = 0) = true) (hv : (oneP sg ((xn, xs), l) ((yn, ys), m)).act = 3) :
    Calls Tryz.prog 3 #[.agg #[.slice S n cap, .string xn, .int .i64 xs, .slice a (lenF l) c, .string yn, .int .i64 ys, .slice b (lenF m) d, .slice p bs.length pc]] w fun e w' => e = .returned (.bool true) ∧ Below w.heap.size w w' := by
  have HB0 := hid (alloc_below0 w (.cells #[.slice S n cap, .string xn, .int .i64 xs, .slice a (lenF l) c, .string yn, .int .i64 ys, .slice b (lenF m) d, .slice p bs.length pc] 31))
  have HX := hid (Box.new w 31 #[.slice S n cap, .string xn, .int .i64 xs, .slice a (lenF l) c, .string yn, .int .i64 ys, .slice b (lenF m) d, .slice p bs.length pc])
  have H5 := hid head_ok
  have H6 := hid fun (W : World) (hW : Below w.heap.size w W) => plain_any S n cap sg ((xn, xs), l) ((yn, ys), m) a b c d W (hG.below hW) (hS.below hW) (hU.below hW) hM hN hsg
  have H7 := hid fun (W : World) (hW : Below w.heap.size w W) => rplain_any S n cap sg W (hG.below hW) (by omega)
  have H8 := hid fun (W : World) (a' : Option Addr) (cap' : Nat) (hW : Below w.heap.size w W) (h : SigAt W a' n (sg.map plainS)) => ris_any a' n cap' (sg.map plainS) p pc bs W h (hB.below hW) hbl hnd
  have H9 := hid fun (W : World) (hW : Below w.heap.size w W) => one_any S n cap sg ((xn, xs), l) ((yn, ys), m) a b c d W (hG.below hW) (hS.below hW) (hU.below hW) hM hN
  have H10 := hid fun (W : World) (a' : Option Addr) (cap' : Nat) (hW : Below w.heap.size w W) (h : SigAt W a' n (sg.map plainS)) => equal_any a' n cap' (sg.map plainS) p pc bs ((xn, xs), l) ((yn, ys), m) a b c d W h (hB.below hW) hbl hnd (hS.below hW) (hU.below hW)
  have H11 := hid fun (W : World) (hW : Below w.heap.size w W) => grown_big bs hbl hnd ((xn, xs), l) a c p pc W (hS.below hW) (hB.below hW)
  have H12 := hid fun (W : World) (hW : Below w.heap.size w W) => grown_big bs hbl hnd ((yn, ys), m) b d p pc W (hU.below hW) (hB.below hW)
  rw [hp] at H6
  simp only [hc] at H8
  have hBV : (oneP sg ((xn, xs), l) ((yn, ys), m)).bv.size ≤ maxLen := by
    rcases one_bv sg ((xn, xs), l) ((yn, ys), m) with h | h | h
    · rw [h]; decide
    · rw [h]; exact hS.sizes.name
    · rw [h]; exact hU.sizes.name
  have hLN : (oneP sg ((xn, xs), l) ((yn, ys), m)).ls.length ≤ 1048576 := by
    have h1 := lookP_len sg ((xn, xs), l) ((yn, ys), m)
    have h2 := len_nodes l
    unfold oneP
    split
    · simp [actW]
    · dsimp only at h1; omega
  have HQ := hid hB
  have hl := right_law hp (chk_rights bs none 0 (of_decide_eq_true hc))
  generalize oneP sg ((xn, xs), l) ((yn, ys), m) = V at H9 hBV hLN hl hv
  unfold rightW at hl
  generalize eqB (sg.map plainS) bs ((xn, xs), l) ((yn, ys), m) = E at H10 hl
  generalize bigB bs ((xn, xs), l) = gA at H11 hl
  generalize bigB bs ((yn, ys), m) = gB at H12 hl
  obtain ⟨act, bv, ⟨⟨tn, ts⟩, tl⟩, ls, sym⟩ := V
  dsimp only at *
  subst hv
  rw [if_neg (by decide), if_neg (by decide), if_pos rfl] at hl
  have HE3 := hid fun (W : World) (a' : Option Addr) (cap' : Nat) (ta : Option Addr) (tc : Nat) (hW : Below w.heap.size w W) (h : SigAt W a' n (sg.map plainS)) (ht : TmAt W (tn, ts) ta tc tl) => equal_any a' n cap' (sg.map plainS) p pc bs ((bv, 0), .nil) ((tn, ts), tl) none ta 0 tc W h (hB.below hW) hbl hnd (var_at hBV) ht
  dsimp only [lenF] at HE3
  generalize eqB (sg.map plainS) bs ((bv, 0), .nil) ((tn, ts), tl) = E2 at HE3 hl
  clear hG hS hU hB hp hc
  cases gA
  · skip
    go_enter Tryz.func3, Tryz.ntmps3
    go_wp2_with (first
      | (go_at_call 10; (with_reducible refine (HE3.out _ _ _ _ _ HB8.out HSG8.out (HTA.out.below HC8.out)).mono ?_); rintro e w9 ⟨rfl, hb9⟩; have HB9 := hid (HB8.out.trans (hb9.mono HB8.out.size)); clear hb9)
      | (go_at_call 11; (with_reducible refine (H12.out _ HB7.out).mono ?_); rintro e w8 ⟨rfl, hb8⟩; have HB8 := hid (HB7.out.trans (hb8.mono HB7.out.size)); have X8 := HX7.out.below hb8; have HX8 := hid X8; have HSG8 := hid (HSG7.out.below hb8); have HC8 := hid (HC7.out.trans (hb8.mono HC7.out.size)); clear z0 z1 z2 z3 z4 z5 z6 z7; have z0 := X8.c 0; have z1 := X8.c 1; have z2 := X8.c 2; have z3 := X8.c 3; have z4 := X8.c 4; have z5 := X8.c 5; have z6 := X8.c 6; have z7 := X8.c 7; have Q8 := HBW.out.below HC8.out; have HQB8 := hid Q8; have v0 := Q8.c 0; have v1 := Q8.c 1; have v2 := Q8.c 2; have v3 := Q8.c 3; have v4 := Q8.c 4; have v5 := Q8.c 5; have v6 := Q8.c 6; clear hb8 X8 Q8)
      | (go_at_call 11; (with_reducible refine (H11.out _ HB6.out).mono ?_); rintro e w7 ⟨rfl, hb7⟩; have HB7 := hid (HB6.out.trans (hb7.mono HB6.out.size)); have X7 := HX6.out.below hb7; have HX7 := hid X7; have HSG7 := hid (HSG6.out.below hb7); have HC7 := hid (HC6.out.trans (hb7.mono HC6.out.size)); clear z0 z1 z2 z3 z4 z5 z6 z7; have z0 := X7.c 0; have z1 := X7.c 1; have z2 := X7.c 2; have z3 := X7.c 3; have z4 := X7.c 4; have z5 := X7.c 5; have z6 := X7.c 6; have z7 := X7.c 7; have Q7 := HBW.out.below HC7.out; have HQB7 := hid Q7; have v0 := Q7.c 0; have v1 := Q7.c 1; have v2 := Q7.c 2; have v3 := Q7.c 3; have v4 := Q7.c 4; have v5 := Q7.c 5; have v6 := Q7.c 6; clear hb7 X7 Q7)
      | (go_at_call 10; (with_reducible refine (H10.out _ _ _ HB5.out HSG5.out).mono ?_); rintro e w6 ⟨rfl, hb6⟩; have HB6 := hid (HB5.out.trans (hb6.mono HB5.out.size)); have X6 := HX5.out.below hb6; have HX6 := hid X6; have HSG6 := hid (HSG5.out.below hb6); have HC6 := hid hb6; clear z0 z1 z2 z3 z4 z5 z6 z7; have z0 := X6.c 0; have z1 := X6.c 1; have z2 := X6.c 2; have z3 := X6.c 3; have z4 := X6.c 4; have z5 := X6.c 5; have z6 := X6.c 6; have z7 := X6.c 7; have Q6 := HBW.out.below HC6.out; have HQB6 := hid Q6; have v0 := Q6.c 0; have v1 := Q6.c 1; have v2 := Q6.c 2; have v3 := Q6.c 3; have v4 := Q6.c 4; have v5 := Q6.c 5; have v6 := Q6.c 6; clear hb6 X6 Q6)
      | (go_at_call 9; (with_reducible refine (H9.out _ HB4.out).mono ?_); rintro e w5 ⟨⟨va, rfl, hoa⟩, hb5⟩; obtain ⟨ta, tc, ks, la, lc, rfl, hta, hks, hkt, hrow, _⟩ := hoa.wy.is; unfold wayC; have hb5' : Below w4.heap.size w4 (w5.alloc (.cells #[.int .i64 3, .string bv, .string tn, .int .i64 ts, .slice ta (lenF tl) tc, .slice la ls.length lc, .int .i64 sym] 41)) := hb5.trans ((alloc_below0 w5 _).mono hb5.size); have HB5 := hid (HB4.out.trans (hb5'.mono HB4.out.size)); have HBW := hid (Box.new w5 41 #[.int .i64 3, .string bv, .string tn, .int .i64 ts, .slice ta (lenF tl) tc, .slice la ls.length lc, .int .i64 sym]); have HTA := hid (hta.below (alloc_below0 w5 (.cells #[.int .i64 3, .string bv, .string tn, .int .i64 ts, .slice ta (lenF tl) tc, .slice la ls.length lc, .int .i64 sym] 41))); have HKS := hid hks; have HKT := hid (fun kv hk => (hkt kv hk).below (alloc_below0 w5 (.cells #[.int .i64 3, .string bv, .string tn, .int .i64 ts, .slice ta (lenF tl) tc, .slice la ls.length lc, .int .i64 sym] 41))); have HROW := hid hrow; have HB5s := hid (alloc_below0 w5 (.cells #[.int .i64 3, .string bv, .string tn, .int .i64 ts, .slice ta (lenF tl) tc, .slice la ls.length lc, .int .i64 sym] 41)); have HSG5 := hid (HSG4.out.below hb5'); have X5 := HX4.out.below hb5'; have HX5 := hid X5; clear z0 z1 z2 z3 z4 z5 z6 z7; have z0 := X5.c 0; have z1 := X5.c 1; have z2 := X5.c 2; have z3 := X5.c 3; have z4 := X5.c 4; have z5 := X5.c 5; have z6 := X5.c 6; have z7 := X5.c 7; clear hb5 hb5' hoa hta hks hkt hrow X5)
      | (go_at_call 5; refine (H5.out _).mono ?_; rintro e w1 ⟨rfl, hb1⟩; have HB1 := hid (HB0.out.trans (hb1.mono HB0.out.size)); have X1 := HX.out.below hb1; have HX1 := hid X1; have z0 := X1.c 0; have z1 := X1.c 1; have z2 := X1.c 2; have z3 := X1.c 3; have z4 := X1.c 4; have z5 := X1.c 5; have z6 := X1.c 6; have z7 := X1.c 7; clear hb1 X1)
      | (go_at_call 6; (with_reducible refine (H6.out _ HB1.out).mono ?_); rintro e w2 ⟨rfl, hb2⟩; have HB2 := hid (HB1.out.trans (hb2.mono HB1.out.size)); have X2 := HX1.out.below hb2; have HX2 := hid X2; clear z0 z1 z2 z3 z4 z5 z6 z7; have z0 := X2.c 0; have z1 := X2.c 1; have z2 := X2.c 2; have z3 := X2.c 3; have z4 := X2.c 4; have z5 := X2.c 5; have z6 := X2.c 6; have z7 := X2.c 7; clear hb2 X2)
      | (go_at_call 7; (with_reducible refine (H7.out _ HB2.out).mono ?_); rintro e w3 ⟨a', cap', rfl, hsg3, hb3⟩; have HSG3 := hid hsg3; have HB3 := hid (HB2.out.trans (hb3.mono HB2.out.size)); have X3 := HX2.out.below hb3; have HX3 := hid X3; clear z0 z1 z2 z3 z4 z5 z6 z7; have z0 := X3.c 0; have z1 := X3.c 1; have z2 := X3.c 2; have z3 := X3.c 3; have z4 := X3.c 4; have z5 := X3.c 5; have z6 := X3.c 6; have z7 := X3.c 7; clear hb3 X3 hsg3)
      | (go_at_call 8; (with_reducible refine (H8.out _ _ _ HB3.out HSG3.out).mono ?_); rintro e w4 ⟨rfl, hb4⟩; have HSG4 := hid (HSG3.out.below hb4); have HB4 := hid (HB3.out.trans (hb4.mono HB3.out.size)); have X4 := HX3.out.below hb4; have HX4 := hid X4; clear z0 z1 z2 z3 z4 z5 z6 z7; have z0 := X4.c 0; have z1 := X4.c 1; have z2 := X4.c 2; have z3 := X4.c 3; have z4 := X4.c 4; have z5 := X4.c 5; have z6 := X4.c 6; have z7 := X4.c 7; clear hb4 X4))
    go_ret
    have e9 := eq_of_beq hl
    subst e9
    cases E <;> exact ⟨rfl, HB9.out⟩
  · skip
    go_enter Tryz.func3, Tryz.ntmps3
    go_wp2_with (first
      | (go_at_call 10; (with_reducible refine (HE3.out _ _ _ _ _ HB7.out HSG7.out (HTA.out.below HC7.out)).mono ?_); rintro e w9 ⟨rfl, hb9⟩; have HB9 := hid (HB7.out.trans (hb9.mono HB7.out.size)); clear hb9)
      | (go_at_call 11; (with_reducible refine (H11.out _ HB6.out).mono ?_); rintro e w7 ⟨rfl, hb7⟩; have HB7 := hid (HB6.out.trans (hb7.mono HB6.out.size)); have X7 := HX6.out.below hb7; have HX7 := hid X7; have HSG7 := hid (HSG6.out.below hb7); have HC7 := hid (HC6.out.trans (hb7.mono HC6.out.size)); clear z0 z1 z2 z3 z4 z5 z6 z7; have z0 := X7.c 0; have z1 := X7.c 1; have z2 := X7.c 2; have z3 := X7.c 3; have z4 := X7.c 4; have z5 := X7.c 5; have z6 := X7.c 6; have z7 := X7.c 7; have Q7 := HBW.out.below HC7.out; have HQB7 := hid Q7; have v0 := Q7.c 0; have v1 := Q7.c 1; have v2 := Q7.c 2; have v3 := Q7.c 3; have v4 := Q7.c 4; have v5 := Q7.c 5; have v6 := Q7.c 6; clear hb7 X7 Q7)
      | (go_at_call 10; (with_reducible refine (H10.out _ _ _ HB5.out HSG5.out).mono ?_); rintro e w6 ⟨rfl, hb6⟩; have HB6 := hid (HB5.out.trans (hb6.mono HB5.out.size)); have X6 := HX5.out.below hb6; have HX6 := hid X6; have HSG6 := hid (HSG5.out.below hb6); have HC6 := hid hb6; clear z0 z1 z2 z3 z4 z5 z6 z7; have z0 := X6.c 0; have z1 := X6.c 1; have z2 := X6.c 2; have z3 := X6.c 3; have z4 := X6.c 4; have z5 := X6.c 5; have z6 := X6.c 6; have z7 := X6.c 7; have Q6 := HBW.out.below HC6.out; have HQB6 := hid Q6; have v0 := Q6.c 0; have v1 := Q6.c 1; have v2 := Q6.c 2; have v3 := Q6.c 3; have v4 := Q6.c 4; have v5 := Q6.c 5; have v6 := Q6.c 6; clear hb6 X6 Q6)
      | (go_at_call 9; (with_reducible refine (H9.out _ HB4.out).mono ?_); rintro e w5 ⟨⟨va, rfl, hoa⟩, hb5⟩; obtain ⟨ta, tc, ks, la, lc, rfl, hta, hks, hkt, hrow, _⟩ := hoa.wy.is; unfold wayC; have hb5' : Below w4.heap.size w4 (w5.alloc (.cells #[.int .i64 3, .string bv, .string tn, .int .i64 ts, .slice ta (lenF tl) tc, .slice la ls.length lc, .int .i64 sym] 41)) := hb5.trans ((alloc_below0 w5 _).mono hb5.size); have HB5 := hid (HB4.out.trans (hb5'.mono HB4.out.size)); have HBW := hid (Box.new w5 41 #[.int .i64 3, .string bv, .string tn, .int .i64 ts, .slice ta (lenF tl) tc, .slice la ls.length lc, .int .i64 sym]); have HTA := hid (hta.below (alloc_below0 w5 (.cells #[.int .i64 3, .string bv, .string tn, .int .i64 ts, .slice ta (lenF tl) tc, .slice la ls.length lc, .int .i64 sym] 41))); have HKS := hid hks; have HKT := hid (fun kv hk => (hkt kv hk).below (alloc_below0 w5 (.cells #[.int .i64 3, .string bv, .string tn, .int .i64 ts, .slice ta (lenF tl) tc, .slice la ls.length lc, .int .i64 sym] 41))); have HROW := hid hrow; have HB5s := hid (alloc_below0 w5 (.cells #[.int .i64 3, .string bv, .string tn, .int .i64 ts, .slice ta (lenF tl) tc, .slice la ls.length lc, .int .i64 sym] 41)); have HSG5 := hid (HSG4.out.below hb5'); have X5 := HX4.out.below hb5'; have HX5 := hid X5; clear z0 z1 z2 z3 z4 z5 z6 z7; have z0 := X5.c 0; have z1 := X5.c 1; have z2 := X5.c 2; have z3 := X5.c 3; have z4 := X5.c 4; have z5 := X5.c 5; have z6 := X5.c 6; have z7 := X5.c 7; clear hb5 hb5' hoa hta hks hkt hrow X5)
      | (go_at_call 5; refine (H5.out _).mono ?_; rintro e w1 ⟨rfl, hb1⟩; have HB1 := hid (HB0.out.trans (hb1.mono HB0.out.size)); have X1 := HX.out.below hb1; have HX1 := hid X1; have z0 := X1.c 0; have z1 := X1.c 1; have z2 := X1.c 2; have z3 := X1.c 3; have z4 := X1.c 4; have z5 := X1.c 5; have z6 := X1.c 6; have z7 := X1.c 7; clear hb1 X1)
      | (go_at_call 6; (with_reducible refine (H6.out _ HB1.out).mono ?_); rintro e w2 ⟨rfl, hb2⟩; have HB2 := hid (HB1.out.trans (hb2.mono HB1.out.size)); have X2 := HX1.out.below hb2; have HX2 := hid X2; clear z0 z1 z2 z3 z4 z5 z6 z7; have z0 := X2.c 0; have z1 := X2.c 1; have z2 := X2.c 2; have z3 := X2.c 3; have z4 := X2.c 4; have z5 := X2.c 5; have z6 := X2.c 6; have z7 := X2.c 7; clear hb2 X2)
      | (go_at_call 7; (with_reducible refine (H7.out _ HB2.out).mono ?_); rintro e w3 ⟨a', cap', rfl, hsg3, hb3⟩; have HSG3 := hid hsg3; have HB3 := hid (HB2.out.trans (hb3.mono HB2.out.size)); have X3 := HX2.out.below hb3; have HX3 := hid X3; clear z0 z1 z2 z3 z4 z5 z6 z7; have z0 := X3.c 0; have z1 := X3.c 1; have z2 := X3.c 2; have z3 := X3.c 3; have z4 := X3.c 4; have z5 := X3.c 5; have z6 := X3.c 6; have z7 := X3.c 7; clear hb3 X3 hsg3)
      | (go_at_call 8; (with_reducible refine (H8.out _ _ _ HB3.out HSG3.out).mono ?_); rintro e w4 ⟨rfl, hb4⟩; have HSG4 := hid (HSG3.out.below hb4); have HB4 := hid (HB3.out.trans (hb4.mono HB3.out.size)); have X4 := HX3.out.below hb4; have HX4 := hid X4; clear z0 z1 z2 z3 z4 z5 z6 z7; have z0 := X4.c 0; have z1 := X4.c 1; have z2 := X4.c 2; have z3 := X4.c 3; have z4 := X4.c 4; have z5 := X4.c 5; have z6 := X4.c 6; have z7 := X4.c 7; clear hb4 X4))
    go_ret
    have e9 := eq_of_beq hl
    subst e9
    cases E <;> exact ⟨rfl, HB9.out⟩
end Go.Proofs.YtfnfbljijkjkjaaGreat
