import Derived.Test.YtfnfbljijkjkjaaGreatKUfU
/- What the statements' equal answers. -/
namespace Go.Proofs.YtfnfbljijkjkjaaGreat
open Go.RowKit Go.Deep

theorem rapply_big (S : Option Addr) (n cap : Nat) (sg : List Sym) (p : Option Addr) (bcap : Nat) (bs : List Bn) (x : ByteArray × Int) (l : Fo) (a : Option Addr) (c : Nat) (w : World) (hS : SigAt w S n sg) (hB : BindsAt w p bs.length bs) (hn : bs.length ≤ 1048576) (hnd : ∀ b ∈ bs, nodesF b.2.2 ≤ 1048576) (hT : TmAt w x a c l) (hg : bigB bs (x, l) = true) :
    Calls Tryz.prog 24 #[.slice S n cap, .slice p bs.length bcap, .agg #[.string x.1, .int .i64 x.2, .slice a (lenF l) c]] w fun e w' => e = .returned (.tuple #[.agg #[.string ⟨#[]⟩, .int .i64 0, .slice none 0 0], .int .i64 73]) ∧ Below w.heap.size w w' :=
  (rapply_any S n cap sg p bcap bs x l a c w hS hB hn hnd hT).mono fun e w' ⟨hb, h⟩ => by
    have hg' := of_decide_eq_true hg
    rcases h with ⟨_, he⟩ | ⟨h0, _⟩
    · exact ⟨he, hb⟩
    · dsimp only at hg'; omega
theorem rapply_ok (S : Option Addr) (n cap : Nat) (sg : List Sym) (p : Option Addr) (bcap : Nat) (bs : List Bn) (x : ByteArray × Int) (l : Fo) (a : Option Addr) (c : Nat) (w : World) (hS : SigAt w S n sg) (hB : BindsAt w p bs.length bs) (hn : bs.length ≤ 1048576) (hnd : ∀ b ∈ bs, nodesF b.2.2 ≤ 1048576) (hT : TmAt w x a c l) (hg : bigB bs (x, l) = false) :
    Calls Tryz.prog 24 #[.slice S n cap, .slice p bs.length bcap, .agg #[.string x.1, .int .i64 x.2, .slice a (lenF l) c]] w fun e w' => ∃ a' c', e = .returned (.tuple #[.agg #[.string (canonT (sgOf sg) (pinN bs x l)).1.1, .int .i64 (canonT (sgOf sg) (pinN bs x l)).1.2, .slice a' (lenF (canonT (sgOf sg) (pinN bs x l)).2) c'], .int .i64 0]) ∧ TmAt w' (canonT (sgOf sg) (pinN bs x l)).1 a' c' (canonT (sgOf sg) (pinN bs x l)).2 ∧ Below w.heap.size w w' :=
  (rapply_any S n cap sg p bcap bs x l a c w hS hB hn hnd hT).mono fun e w' ⟨hb, h⟩ => by
    have hg' := of_decide_eq_false hg
    rcases h with ⟨h0, _⟩ | ⟨_, r, a', c', rfl, he, ho⟩
    · dsimp only at hg'; omega
    · exact ⟨a', c', he, ho.tm, hb⟩
set_option maxRecDepth 100000 in
set_option maxHeartbeats 4000000 in
theorem equal_any (S : Option Addr) (n cap : Nat) (sg : List Sym) (p : Option Addr) (pc : Nat) (bs : List Bn) (A B : Tn) (a b : Option Addr) (c d : Nat) (w : World) (hG : SigAt w S n sg) (hB : BindsAt w p bs.length bs) (hn : bs.length ≤ 1048576) (hnd : ∀ b ∈ bs, nodesF b.2.2 ≤ 1048576) (hS : TmAt w A.1 a c A.2) (hT : TmAt w B.1 b d B.2) :
    Calls Tryz.prog 10 #[.slice S n cap, .slice p bs.length pc, .agg #[.string A.1.1, .int .i64 A.1.2, .slice a (lenF A.2) c], .agg #[.string B.1.1, .int .i64 B.1.2, .slice b (lenF B.2) d]] w fun e w' => e = .returned (.bool (eqB sg bs A B)) ∧ Below w.heap.size w w' := by
  obtain ⟨⟨xn, xs⟩, l⟩ := A
  obtain ⟨⟨yn, ys⟩, m⟩ := B
  dsimp only at *
  obtain ⟨b1, b2, hb0⟩ := two_new w #[.string xn, .int .i64 xs, .slice a (lenF l) c] 26 #[.string yn, .int .i64 ys, .slice b (lenF m) d] 26
  have HX := hid b1; have HY := hid b2; have HB0 := hid hb0
  have x0 := b1.c 0; have x1 := b1.c 1; have x2 := b1.c 2
  have y0 := b2.c 0; have y1 := b2.c 1; have y2 := b2.c 2
  unfold eqB
  cases hA : bigB bs ((xn, xs), l) <;> cases hC : bigB bs ((yn, ys), m)
  · have H1 := hid fun (W : World) (hW : Below w.heap.size w W) => rapply_ok S n cap sg p pc bs (xn, xs) l a c W (hG.below hW) (hB.below hW) hn hnd (hS.below hW) hA
    have H2 := hid fun (W : World) (hW : Below w.heap.size w W) => rapply_ok S n cap sg p pc bs (yn, ys) m b d W (hG.below hW) (hB.below hW) hn hnd (hT.below hW) hC
    dsimp only at H1 H2 ⊢
    generalize canonT (sgOf sg) (pinN bs (xn, xs) l) = ra at H1 ⊢
    generalize canonT (sgOf sg) (pinN bs (yn, ys) m) = rb at H2 ⊢
    obtain ⟨⟨ran, ras⟩, ral⟩ := ra
    obtain ⟨⟨rbn, rbs⟩, rbl⟩ := rb
    try dsimp only at H1 H2 ⊢
    clear hG hB hS hT hA hC b1 b2 hb0
    go_enter Tryz.func10, Tryz.ntmps10
    go_wp2_with (first
      | (go_at_call 24; (with_reducible refine (H2.out _ HB1.out).mono ?_); rintro e w2 ⟨a2, c2, rfl, ht2, hb2⟩; have HB2 := hid (HB1.out.trans ((hb2.trans ((alloc_below0 w2 (.cells #[.string rbn, .int .i64 rbs, .slice a2 (lenF rbl) c2] 26)).mono hb2.size)).mono HB1.out.size)); have HT1' := HT1.out.below (hb2.trans ((alloc_below0 w2 (.cells #[.string rbn, .int .i64 rbs, .slice a2 (lenF rbl) c2] 26)).mono hb2.size)); have HT2 := ht2.below (alloc_below0 w2 (.cells #[.string rbn, .int .i64 rbs, .slice a2 (lenF rbl) c2] 26)); have HS := hid (rsame_any ((ran, ras), ral) ((rbn, rbs), rbl) a1 a2 c1 c2 _ HT1' HT2); have Z1 := HZ1.out.below (hb2.trans ((alloc_below0 w2 (.cells #[.string rbn, .int .i64 rbs, .slice a2 (lenF rbl) c2] 26)).mono hb2.size)); have Z2 := Box.new w2 26 #[.string rbn, .int .i64 rbs, .slice a2 (lenF rbl) c2]; have z0 := Z1.c 0; have z1 := Z1.c 1; have z2 := Z1.c 2; have q0 := Z2.c 0; have q1 := Z2.c 1; have q2 := Z2.c 2; clear ht2 hb2 HT1' HT2 Z1 Z2 y0 y1 y2)
      | (go_at_call 24; (with_reducible refine (H1.out _ HB0.out).mono ?_); rintro e w1 ⟨a1, c1, rfl, ht1, hb1⟩; have hbb := hb1.trans ((alloc_below0 w1 (.cells #[.string ran, .int .i64 ras, .slice a1 (lenF ral) c1] 26)).mono hb1.size); have HB1 := hid (HB0.out.trans (hbb.mono HB0.out.size)); have HT1 := hid (ht1.below (alloc_below0 w1 (.cells #[.string ran, .int .i64 ras, .slice a1 (lenF ral) c1] 26))); have HZ1 := hid (Box.new w1 26 #[.string ran, .int .i64 ras, .slice a1 (lenF ral) c1]); have Y1 := HY.out.below hbb; have y0 := Y1.c 0; have y1 := Y1.c 1; have y2 := Y1.c 2; clear ht1 hb1 hbb Y1 x0 x1 x2)
      | (go_at_call 15; (with_reducible refine (HS.out).mono ?_); rintro e w3 ⟨rfl, hb3⟩; have HB3 := hid (HB2.out.trans (hb3.mono HB2.out.size)); clear hb3))
    go_ret
    exact ⟨rfl, HB3.out⟩
  · have H1 := hid fun (W : World) (hW : Below w.heap.size w W) => rapply_ok S n cap sg p pc bs (xn, xs) l a c W (hG.below hW) (hB.below hW) hn hnd (hS.below hW) hA
    have H2 := hid fun (W : World) (hW : Below w.heap.size w W) => rapply_big S n cap sg p pc bs (yn, ys) m b d W (hG.below hW) (hB.below hW) hn hnd (hT.below hW) hC
    dsimp only at H1 H2 ⊢
    generalize canonT (sgOf sg) (pinN bs (xn, xs) l) = ra at H1 ⊢
    obtain ⟨⟨ran, ras⟩, ral⟩ := ra
    try dsimp only at H1 H2 ⊢
    clear hG hB hS hT hA hC b1 b2 hb0
    go_enter Tryz.func10, Tryz.ntmps10
    go_wp2_with (first
      | (go_at_call 24; (with_reducible refine (H2.out _ HB1.out).mono ?_); rintro e w2 ⟨rfl, hb2⟩; have HB2 := hid (HB1.out.trans ((hb2.trans ((alloc_below0 w2 (.cells #[.string ⟨#[]⟩, .int .i64 0, .slice none 0 0] 26)).mono hb2.size)).mono HB1.out.size)); clear hb2 y0 y1 y2)
      | (go_at_call 24; (with_reducible refine (H1.out _ HB0.out).mono ?_); rintro e w1 ⟨a1, c1, rfl, _, hb1⟩; have hbb := hb1.trans ((alloc_below0 w1 (.cells #[.string ran, .int .i64 ras, .slice a1 (lenF ral) c1] 26)).mono hb1.size); have HB1 := hid (HB0.out.trans (hbb.mono HB0.out.size)); have Y1 := HY.out.below hbb; have y0 := Y1.c 0; have y1 := Y1.c 1; have y2 := Y1.c 2; clear hb1 hbb Y1 x0 x1 x2))
    go_ret
    exact ⟨rfl, HB2.out⟩
  · have H1 := hid fun (W : World) (hW : Below w.heap.size w W) => rapply_big S n cap sg p pc bs (xn, xs) l a c W (hG.below hW) (hB.below hW) hn hnd (hS.below hW) hA
    have H2 := hid fun (W : World) (hW : Below w.heap.size w W) => rapply_ok S n cap sg p pc bs (yn, ys) m b d W (hG.below hW) (hB.below hW) hn hnd (hT.below hW) hC
    dsimp only at H1 H2 ⊢
    generalize canonT (sgOf sg) (pinN bs (yn, ys) m) = rb at H2 ⊢
    obtain ⟨⟨rbn, rbs⟩, rbl⟩ := rb
    try dsimp only at H1 H2 ⊢
    clear hG hB hS hT hA hC b1 b2 hb0
    go_enter Tryz.func10, Tryz.ntmps10
    go_wp2_with (first
      | (go_at_call 24; (with_reducible refine (H2.out _ HB1.out).mono ?_); rintro e w2 ⟨a2, c2, rfl, _, hb2⟩; have HB2 := hid (HB1.out.trans ((hb2.trans ((alloc_below0 w2 (.cells #[.string rbn, .int .i64 rbs, .slice a2 (lenF rbl) c2] 26)).mono hb2.size)).mono HB1.out.size)); clear hb2 y0 y1 y2)
      | (go_at_call 24; (with_reducible refine (H1.out _ HB0.out).mono ?_); rintro e w1 ⟨rfl, hb1⟩; have hbb := hb1.trans ((alloc_below0 w1 (.cells #[.string ⟨#[]⟩, .int .i64 0, .slice none 0 0] 26)).mono hb1.size); have HB1 := hid (HB0.out.trans (hbb.mono HB0.out.size)); have Y1 := HY.out.below hbb; have y0 := Y1.c 0; have y1 := Y1.c 1; have y2 := Y1.c 2; clear hb1 hbb Y1 x0 x1 x2))
    go_ret
    exact ⟨rfl, HB2.out⟩
  · have H1 := hid fun (W : World) (hW : Below w.heap.size w W) => rapply_big S n cap sg p pc bs (xn, xs) l a c W (hG.below hW) (hB.below hW) hn hnd (hS.below hW) hA
    have H2 := hid fun (W : World) (hW : Below w.heap.size w W) => rapply_big S n cap sg p pc bs (yn, ys) m b d W (hG.below hW) (hB.below hW) hn hnd (hT.below hW) hC
    dsimp only at H1 H2 ⊢
    try dsimp only at H1 H2 ⊢
    clear hG hB hS hT hA hC b1 b2 hb0
    go_enter Tryz.func10, Tryz.ntmps10
    go_wp2_with (first
      | (go_at_call 24; (with_reducible refine (H2.out _ HB1.out).mono ?_); rintro e w2 ⟨rfl, hb2⟩; have HB2 := hid (HB1.out.trans ((hb2.trans ((alloc_below0 w2 (.cells #[.string ⟨#[]⟩, .int .i64 0, .slice none 0 0] 26)).mono hb2.size)).mono HB1.out.size)); clear hb2 y0 y1 y2)
      | (go_at_call 24; (with_reducible refine (H1.out _ HB0.out).mono ?_); rintro e w1 ⟨rfl, hb1⟩; have hbb := hb1.trans ((alloc_below0 w1 (.cells #[.string ⟨#[]⟩, .int .i64 0, .slice none 0 0] 26)).mono hb1.size); have HB1 := hid (HB0.out.trans (hbb.mono HB0.out.size)); have Y1 := HY.out.below hbb; have y0 := Y1.c 0; have y1 := Y1.c 1; have y2 := Y1.c 2; clear hb1 hbb Y1 x0 x1 x2))
    go_ret
    exact ⟨rfl, HB2.out⟩
end Go.Proofs.YtfnfbljijkjkjaaGreat
