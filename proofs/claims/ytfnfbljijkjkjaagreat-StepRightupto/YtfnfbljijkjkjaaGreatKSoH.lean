import Derived.Test.YtfnfbljijkjkjaaGreatKSoG
/- What the statements' plain answers. -/
namespace Go.Proofs.YtfnfbljijkjkjaaGreat
open Go.RowKit Go.Deep

def isC (l : List Sym) (t : Tn) : Bool := exN (canonT (sgOf l) t).1 t.1 (canonT (sgOf l) t).2 t.2
def plainB (l : List Sym) (A B : Tn) : Bool := (rightB l A && rightB l B) && (isC (l.map plainS) A && isC (l.map plainS) B)

set_option maxRecDepth 100000 in
set_option maxHeartbeats 4000000 in
theorem plain_any (S : Option Addr) (n cap : Nat) (sg : List Sym) (s t : Tn) (a b : Option Addr) (c d : Nat) (w : World) (hG : SigAt w S n sg) (hS : TmAt w s.1 a c s.2) (hT : TmAt w t.1 b d t.2) (hM : nodesF s.2 ≤ 1048576) (hN : nodesF t.2 ≤ 1048576) (hn : n ≤ 1048576) :
    Calls Tryz.prog 6 #[.slice S n cap, .agg #[.string s.1.1, .int .i64 s.1.2, .slice a (lenF s.2) c, .string t.1.1, .int .i64 t.1.2, .slice b (lenF t.2) d]] w fun e w' => e = .returned (.bool (plainB sg s t)) ∧ Below w.heap.size w w' := by
  obtain ⟨⟨xn, xs⟩, l⟩ := s
  obtain ⟨⟨yn, ys⟩, m⟩ := t
  dsimp only at *
  have HB0 := hid (alloc_below0 w (.cells #[.string xn, .int .i64 xs, .slice a (lenF l) c, .string yn, .int .i64 ys, .slice b (lenF m) d] 28))
  have HX := hid (Box.new w 28 #[.string xn, .int .i64 xs, .slice a (lenF l) c, .string yn, .int .i64 ys, .slice b (lenF m) d])
  have H1 := hid fun (W : World) (hW : Below w.heap.size w W) => rright_any S n cap sg ((xn, xs), l) a c W (hG.below hW) (hS.below hW)
  have H2 := hid fun (W : World) (hW : Below w.heap.size w W) => rright_any S n cap sg ((yn, ys), m) b d W (hG.below hW) (hT.below hW)
  have H3 := hid fun (W : World) (hW : Below w.heap.size w W) => rplain_any S n cap sg W (hG.below hW) (by omega)
  have H4 := hid fun (W : World) (a' : Option Addr) (cap' : Nat) (hW : Below w.heap.size w W) (h : SigAt W a' n (sg.map plainS)) => is_any a' n cap' (sg.map plainS) ((xn, xs), l) a c W h (hS.below hW) hM
  have H5 := hid fun (W : World) (a' : Option Addr) (cap' : Nat) (hW : Below w.heap.size w W) (h : SigAt W a' n (sg.map plainS)) => is_any a' n cap' (sg.map plainS) ((yn, ys), m) b d W h (hT.below hW) hN
  obtain ⟨r1, h1⟩ : ∃ r1, rightB sg ((xn, xs), l) = r1 := ⟨_, rfl⟩
  obtain ⟨r2, h2⟩ : ∃ r2, rightB sg ((yn, ys), m) = r2 := ⟨_, rfl⟩
  obtain ⟨r3, h3⟩ : ∃ r3, isC (sg.map plainS) ((xn, xs), l) = r3 := ⟨_, rfl⟩
  obtain ⟨r4, h4⟩ : ∃ r4, isC (sg.map plainS) ((yn, ys), m) = r4 := ⟨_, rfl⟩
  unfold plainB
  rw [h1, h2, h3, h4]
  unfold isC at h3 h4
  rw [h1] at H1
  rw [h2] at H2
  simp only [h3] at H4
  simp only [h4] at H5
  clear hG hS hT h1 h2 h3 h4
  dsimp only at *
  cases r1 <;> cases r2 <;> cases r3 <;> cases r4
  all_goals
    go_enter Tryz.func6, Tryz.ntmps6
    go_wp2_with (first
      | (go_at_call 18; (with_reducible refine (H2.out _ HB1.out).mono ?_); rintro e w2 ⟨rfl, hb2⟩; have HB2 := hid (HB1.out.trans (hb2.mono HB1.out.size)); have X2 := HX1.out.below hb2; have HX2 := hid X2; have z0 := X2.c 0; have z1 := X2.c 1; have z2 := X2.c 2; have z3 := X2.c 3; have z4 := X2.c 4; have z5 := X2.c 5; clear hb2 X2)
      | (go_at_call 18; (with_reducible refine (H1.out _ HB0.out).mono ?_); rintro e w1 ⟨rfl, hb1⟩; have HB1 := hid (HB0.out.trans (hb1.mono HB0.out.size)); have X1 := HX.out.below hb1; have HX1 := hid X1; have y3 := X1.c 3; have y4 := X1.c 4; have y5 := X1.c 5; clear hb1 X1)
      | (go_at_call 7; (with_reducible refine (H3.out _ HB2.out).mono ?_); rintro e w3 ⟨a', cap', rfl, hsg, hb3⟩; have HSG := hid hsg; have HB3 := hid (HB2.out.trans (hb3.mono HB2.out.size)); have X3 := HX2.out.below hb3; have HX3 := hid X3; have q0 := X3.c 0; have q1 := X3.c 1; have q2 := X3.c 2; clear hb3 X3 hsg)
      | (go_at_call 19; (with_reducible refine (H5.out _ _ _ HB4.out HSG4.out).mono ?_); rintro e w5 ⟨rfl, hb5⟩; have HB5 := hid (HB4.out.trans (hb5.mono HB4.out.size)); clear hb5)
      | (go_at_call 19; (with_reducible refine (H4.out _ _ _ HB3.out HSG.out).mono ?_); rintro e w4 ⟨rfl, hb4⟩; have HB4 := hid (HB3.out.trans (hb4.mono HB3.out.size)); have HSG4 := hid (HSG.out.below hb4); have X4 := HX3.out.below hb4; have v3 := X4.c 3; have v4 := X4.c 4; have v5 := X4.c 5; clear hb4 X4))
    go_ret
    first
      | exact ⟨rfl, HB5.out⟩
      | exact ⟨rfl, HB2.out⟩
end Go.Proofs.YtfnfbljijkjkjaaGreat
