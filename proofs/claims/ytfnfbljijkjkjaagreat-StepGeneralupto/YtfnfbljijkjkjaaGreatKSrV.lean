import Derived.Test.YtfnfbljijkjkjaaGreatKSrE
/- The walk of StepRight. -/
namespace Go.Proofs.YtfnfbljijkjkjaaGreat
open Go.RowKit Go.Deep

theorem act_is {sg : List Sym} {bs : List Bn} {A B : Tn} {V : Wy} (h : rightW sg bs A B V = true) : V.act = 1 ∨ V.act = 2 ∨ V.act = 3 ∨ V.act = 4 ∨ V.act = 5 := by
  unfold rightW at h
  by_cases h1 : V.act = 1
  · exact .inl h1
  · by_cases h2 : V.act = 2
    · exact .inr (.inl h2)
    · by_cases h3 : V.act = 3
      · exact .inr (.inr (.inl h3))
      · by_cases h4 : V.act = 4
        · exact .inr (.inr (.inr (.inl h4)))
        · rw [if_neg h1, if_neg h2, if_neg h3, if_neg h4] at h
          simp only [Bool.and_eq_true, decide_eq_true_eq] at h
          exact .inr (.inr (.inr (.inr h.1)))
theorem one_bv (sg : List Sym) (A B : Tn) : (oneP sg A B).bv = noS ∨ (oneP sg A B).bv = A.1.1 ∨ (oneP sg A B).bv = B.1.1 := by
  unfold oneP
  split
  · exact .inl rfl
  · unfold lookP
    split
    · split
      · unfold ofVarsP
        split
        · exact .inl rfl
        · split
          · exact .inr (.inl rfl)
          · exact .inr (.inr rfl)
      · unfold ofVarP
        split
        · exact .inl rfl
        · exact .inr (.inl rfl)
    · split
      · unfold ofVarP
        split
        · exact .inl rfl
        · exact .inr (.inr rfl)
      · split
        · split
          · unfold sideP
            split <;> exact .inl rfl
          · exact .inl rfl
        · exact .inl rfl
theorem var_at {w : World} {s : ByteArray} (h : s.size ≤ maxLen) : TmAt w (s, 0) none 0 .nil := ⟨⟨h, by simp [lenF], by simp, by simp [lenF]⟩, .inl rfl⟩
theorem grown_big (bs : List Bn) (hn : bs.length ≤ 1048576) (hnd : ∀ b ∈ bs, nodesF b.2.2 ≤ 1048576) (t : Tn) (a : Option Addr) (c : Nat) (p : Option Addr) (bcap : Nat) (w : World) (hT : TmAt w t.1 a c t.2) (hB : BindsAt w p bs.length bs) :
    Calls Tryz.prog 11 #[.slice p bs.length bcap, .agg #[.string t.1.1, .int .i64 t.1.2, .slice a (lenF t.2) c]] w fun e w' => e = .returned (.bool (bigB bs t)) ∧ Below w.heap.size w w' := grown_any bs hn hnd t.1 t.2 a c p bcap w hT hB

set_option maxRecDepth 100000 in
set_option maxHeartbeats 4000000 in
theorem right_none (S : Option Addr) (n cap : Nat) (sg : List Sym) (xn yn : ByteArray) (xs ys : Int) (l m : Fo) (a b : Option Addr) (c d : Nat) (p : Option Addr) (pc : Nat) (bs : List Bn) (w : World) (hG : SigAt w S n sg) (hS : TmAt w (xn, xs) a c l) (hU : TmAt w (yn, ys) b d m) (_hB : BindsAt w p bs.length bs) (hM : nodesF l ≤ 1048576) (hN : nodesF m ≤ 1048576) (hsg : n ≤ 1048576) (_hbl : bs.length ≤ 1048576) (_hnd : ∀ b ∈ bs, nodesF b.2.2 ≤ 1048576) (hp : plainB sg ((xn, xs), l) ((yn, ys), m) = false) :
    Calls Tryz.prog 3 #[.agg #[.slice S n cap, .string xn, .int .i64 xs, .slice a (lenF l) c, .string yn, .int .i64 ys, .slice b (lenF m) d, .slice p bs.length pc]] w fun e w' => e = .returned (.bool true) ∧ Below w.heap.size w w' := by
  have HB0 := hid (alloc_below0 w (.cells #[.slice S n cap, .string xn, .int .i64 xs, .slice a (lenF l) c, .string yn, .int .i64 ys, .slice b (lenF m) d, .slice p bs.length pc] 31))
  have HX := hid (Box.new w 31 #[.slice S n cap, .string xn, .int .i64 xs, .slice a (lenF l) c, .string yn, .int .i64 ys, .slice b (lenF m) d, .slice p bs.length pc])
  have H5 := hid head_ok
  have H6 := hid fun (W : World) (hW : Below w.heap.size w W) => plain_any S n cap sg ((xn, xs), l) ((yn, ys), m) a b c d W (hG.below hW) (hS.below hW) (hU.below hW) hM hN hsg
  have H7 := hid fun (W : World) (hW : Below w.heap.size w W) => rplain_any S n cap sg W (hG.below hW) (by omega)
  rw [hp] at H6
  clear hG hS hU hp
  dsimp only at *
  go_enter Tryz.func3, Tryz.ntmps3
  go_wp2_with (first
    | (go_at_call 5; refine (H5.out _).mono ?_; rintro e w1 ⟨rfl, hb1⟩; have HB1 := hid (HB0.out.trans (hb1.mono HB0.out.size)); have X1 := HX.out.below hb1; have HX1 := hid X1; have z0 := X1.c 0; have z1 := X1.c 1; have z2 := X1.c 2; have z3 := X1.c 3; have z4 := X1.c 4; have z5 := X1.c 5; have z6 := X1.c 6; have z7 := X1.c 7; clear hb1 X1)
    | (go_at_call 6; (with_reducible refine (H6.out _ HB1.out).mono ?_); rintro e w2 ⟨rfl, hb2⟩; have HB2 := hid (HB1.out.trans (hb2.mono HB1.out.size)); have X2 := HX1.out.below hb2; have HX2 := hid X2; clear z0 z1 z2 z3 z4 z5 z6 z7; have z0 := X2.c 0; have z1 := X2.c 1; have z2 := X2.c 2; have z3 := X2.c 3; have z4 := X2.c 4; have z5 := X2.c 5; have z6 := X2.c 6; have z7 := X2.c 7; clear hb2 X2)
    | (go_at_call 7; (with_reducible refine (H7.out _ HB2.out).mono ?_); rintro e w3 ⟨a', cap', rfl, hsg3, hb3⟩; have HSG3 := hid hsg3; have HB3 := hid (HB2.out.trans (hb3.mono HB2.out.size)); have X3 := HX2.out.below hb3; have HX3 := hid X3; clear z0 z1 z2 z3 z4 z5 z6 z7; have z0 := X3.c 0; have z1 := X3.c 1; have z2 := X3.c 2; have z3 := X3.c 3; have z4 := X3.c 4; have z5 := X3.c 5; have z6 := X3.c 6; have z7 := X3.c 7; clear hb3 X3 hsg3))
  go_ret
  exact ⟨rfl, HB3.out⟩

set_option maxRecDepth 100000 in
set_option maxHeartbeats 4000000 in
theorem right_not (S : Option Addr) (n cap : Nat) (sg : List Sym) (xn yn : ByteArray) (xs ys : Int) (l m : Fo) (a b : Option Addr) (c d : Nat) (p : Option Addr) (pc : Nat) (bs : List Bn) (w : World) (hG : SigAt w S n sg) (hS : TmAt w (xn, xs) a c l) (hU : TmAt w (yn, ys) b d m) (hB : BindsAt w p bs.length bs) (hM : nodesF l ≤ 1048576) (hN : nodesF m ≤ 1048576) (hsg : n ≤ 1048576) (hbl : bs.length ≤ 1048576) (hnd : ∀ b ∈ bs, nodesF b.2.2 ≤ 1048576) (hp : plainB sg ((xn, xs), l) ((yn, ys), m) = true) (hc : decide ((chkB (sg.map plainS) bs none 0).1 = 0) = false) :
    Calls Tryz.prog 3 #[.agg #[.slice S n cap, .string xn, .int .i64 xs, .slice a (lenF l) c, .string yn, .int .i64 ys, .slice b (lenF m) d, .slice p bs.length pc]] w fun e w' => e = .returned (.bool true) ∧ Below w.heap.size w w' := by
  have HB0 := hid (alloc_below0 w (.cells #[.slice S n cap, .string xn, .int .i64 xs, .slice a (lenF l) c, .string yn, .int .i64 ys, .slice b (lenF m) d, .slice p bs.length pc] 31))
  have HX := hid (Box.new w 31 #[.slice S n cap, .string xn, .int .i64 xs, .slice a (lenF l) c, .string yn, .int .i64 ys, .slice b (lenF m) d, .slice p bs.length pc])
  have H5 := hid head_ok
  have H6 := hid fun (W : World) (hW : Below w.heap.size w W) => plain_any S n cap sg ((xn, xs), l) ((yn, ys), m) a b c d W (hG.below hW) (hS.below hW) (hU.below hW) hM hN hsg
  have H7 := hid fun (W : World) (hW : Below w.heap.size w W) => rplain_any S n cap sg W (hG.below hW) (by omega)
  have H8 := hid fun (W : World) (a' : Option Addr) (cap' : Nat) (hW : Below w.heap.size w W) (h : SigAt W a' n (sg.map plainS)) => ris_any a' n cap' (sg.map plainS) p pc bs W h (hB.below hW) hbl hnd
  rw [hp] at H6
  simp only [hc] at H8
  clear hG hS hU hB hp hc
  dsimp only at *
  go_enter Tryz.func3, Tryz.ntmps3
  go_wp2_with (first
    | (go_at_call 5; refine (H5.out _).mono ?_; rintro e w1 ⟨rfl, hb1⟩; have HB1 := hid (HB0.out.trans (hb1.mono HB0.out.size)); have X1 := HX.out.below hb1; have HX1 := hid X1; have z0 := X1.c 0; have z1 := X1.c 1; have z2 := X1.c 2; have z3 := X1.c 3; have z4 := X1.c 4; have z5 := X1.c 5; have z6 := X1.c 6; have z7 := X1.c 7; clear hb1 X1)
    | (go_at_call 6; (with_reducible refine (H6.out _ HB1.out).mono ?_); rintro e w2 ⟨rfl, hb2⟩; have HB2 := hid (HB1.out.trans (hb2.mono HB1.out.size)); have X2 := HX1.out.below hb2; have HX2 := hid X2; clear z0 z1 z2 z3 z4 z5 z6 z7; have z0 := X2.c 0; have z1 := X2.c 1; have z2 := X2.c 2; have z3 := X2.c 3; have z4 := X2.c 4; have z5 := X2.c 5; have z6 := X2.c 6; have z7 := X2.c 7; clear hb2 X2)
    | (go_at_call 7; (with_reducible refine (H7.out _ HB2.out).mono ?_); rintro e w3 ⟨a', cap', rfl, hsg3, hb3⟩; have HSG3 := hid hsg3; have HB3 := hid (HB2.out.trans (hb3.mono HB2.out.size)); have X3 := HX2.out.below hb3; have HX3 := hid X3; clear z0 z1 z2 z3 z4 z5 z6 z7; have z0 := X3.c 0; have z1 := X3.c 1; have z2 := X3.c 2; have z3 := X3.c 3; have z4 := X3.c 4; have z5 := X3.c 5; have z6 := X3.c 6; have z7 := X3.c 7; clear hb3 X3 hsg3)
    | (go_at_call 8; (with_reducible refine (H8.out _ _ _ HB3.out HSG3.out).mono ?_); rintro e w4 ⟨rfl, hb4⟩; have HSG4 := hid (HSG3.out.below hb4); have HB4 := hid (HB3.out.trans (hb4.mono HB3.out.size)); have X4 := HX3.out.below hb4; have HX4 := hid X4; clear z0 z1 z2 z3 z4 z5 z6 z7; have z0 := X4.c 0; have z1 := X4.c 1; have z2 := X4.c 2; have z3 := X4.c 3; have z4 := X4.c 4; have z5 := X4.c 5; have z6 := X4.c 6; have z7 := X4.c 7; clear hb4 X4))
  go_ret
  exact ⟨rfl, HB4.out⟩
end Go.Proofs.YtfnfbljijkjkjaaGreat
