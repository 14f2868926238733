import Derived.Test.YtfnfbljijkjkjaaGreatKSoE
/- One of the program. -/
namespace Go.Proofs.YtfnfbljijkjkjaaGreat
open Go.RowKit Go.Deep

theorem sideP_len (l m : Fo) : (sideP l m).ls.length ≤ lenF l := by
  unfold sideP
  split
  · show ((kidsL l).zip (kidsL m)).length ≤ _
    rw [List.length_zip, kids_len]; omega
  · simp [actW]
theorem lookP_len (sg : List Sym) (l r : Tn) : (lookP sg l r).ls.length ≤ lenF l.2 := by
  unfold lookP
  split
  · split
    · rw [ofVars_none]; simp
    · rw [ofVar_none]; simp
  · split
    · rw [ofVar_none]; simp
    · split
      · split
        · exact sideP_len _ _
        · simp
      · simp [actW]
theorem OneAt.far {base : Nat} {w : World} {v : Value} {W : Wy} (h : OneAt base w v W) {w' : World} (hk : ∀ q, base ≤ q → q < w.heap.size → w'.heap[q]? = w.heap[q]?) (hs : w.heap.size ≤ w'.heap.size) : OneAt base w' v W := by
  obtain ⟨tk, ks, la, lc, h1, h2, h3, h4, h5⟩ := h.is
  refine ⟨tk, ks, la, lc, h1, h2, h3, ?_, (h5.keep (fun q hq hlt => hk q hq.1 hlt)).mono (fun q hq => ⟨hq.1, Nat.lt_of_lt_of_le hq.2.1 hs, hq.2.2⟩)⟩
  rcases h4 with h4 | ⟨g, g1, g2, g3, g4⟩
  · exact .inl h4
  · exact .inr ⟨g, g1, g2, g3, g4.keep (hk g g2 g4.lt)⟩
theorem OneAt.below {base : Nat} {w : World} {v : Value} {W : Wy} (h : OneAt base w v W) {w' : World} (hb : Below w.heap.size w w') : OneAt base w' v W := h.far (fun q _ hq => hb.block q hq) hb.size
theorem OneAt.mono {base base' : Nat} {w : World} {v : Value} {W : Wy} (h : OneAt base w v W) (hb : base' ≤ base) : OneAt base' w v W := by
  obtain ⟨tk, ks, la, lc, h1, h2, h3, h4, h5⟩ := h.is
  refine ⟨tk, ks, la, lc, h1, h2, h3, ?_, h5.mono (fun q hq => ⟨Nat.le_trans hb hq.1, hq.2⟩)⟩
  rcases h4 with h4 | ⟨g, g1, g2, g3, g4⟩
  · exact .inl h4
  · exact .inr ⟨g, g1, Nat.le_trans hb g2, g3, g4⟩
/-- The answer is stored. -/
theorem one_end {w W : World} {x0 x1 x2 x3 x4 x5 x6 : Value} {V : Wy} (hb : Below w.heap.size w W) (hv : OneAt (w.heap.size + 2) W (.agg #[x0, x1, x2, x3, x4, x5, x6]) V) :
    (∃ v, Ending.returned (Value.agg #[x0, x1, x2, x3, x4, x5, x6]) = .returned v ∧ OneAt w.heap.size (((((((W.setCell ⟨w.heap.size + 1, 0, none⟩ x0).setCell ⟨w.heap.size + 1, 1, none⟩ x1).setCell ⟨w.heap.size + 1, 2, none⟩ x2).setCell ⟨w.heap.size + 1, 3, none⟩ x3).setCell ⟨w.heap.size + 1, 4, none⟩ x4).setCell ⟨w.heap.size + 1, 5, none⟩ x5).setCell ⟨w.heap.size + 1, 6, none⟩ x6) v V) ∧
    Below w.heap.size w (((((((W.setCell ⟨w.heap.size + 1, 0, none⟩ x0).setCell ⟨w.heap.size + 1, 1, none⟩ x1).setCell ⟨w.heap.size + 1, 2, none⟩ x2).setCell ⟨w.heap.size + 1, 3, none⟩ x3).setCell ⟨w.heap.size + 1, 4, none⟩ x4).setCell ⟨w.heap.size + 1, 5, none⟩ x5).setCell ⟨w.heap.size + 1, 6, none⟩ x6) :=
  ⟨⟨_, rfl, (hv.far (fun q hq _ => sets7_far (by omega) _ _ _ _ _ _ _) (by simp)).mono (by omega)⟩, sets7_below hb (by omega) _ _ _ _ _ _ _⟩

set_option maxRecDepth 100000 in
set_option maxHeartbeats 4000000 in
theorem one_any (S : Option Addr) (n cap : Nat) (sg : List Sym) (s t : Tn) (a b : Option Addr) (c d : Nat) (w : World) (hG : SigAt w S n sg) (hS : TmAt w s.1 a c s.2) (hT : TmAt w t.1 b d t.2) (hM : nodesF s.2 ≤ 1048576) (hN : nodesF t.2 ≤ 1048576) :
    Calls Tryz.prog 9 #[.slice S n cap, .agg #[.string s.1.1, .int .i64 s.1.2, .slice a (lenF s.2) c, .string t.1.1, .int .i64 t.1.2, .slice b (lenF t.2) d]] w fun e w' => (∃ v, e = .returned v ∧ OneAt w.heap.size w' v (oneP sg s t)) ∧ Below w.heap.size w w' := by
  have hlen := lookP_len sg s t
  have hln := len_nodes s.2
  obtain ⟨⟨xn, xs⟩, l⟩ := s
  obtain ⟨⟨yn, ys⟩, m⟩ := t
  dsimp only at *
  obtain ⟨b1, b2, hb0⟩ := two_new w #[.string xn, .int .i64 xs, .slice a (lenF l) c, .string yn, .int .i64 ys, .slice b (lenF m) d] 28 zWay 41
  have H19 := hid fun (W : World) (hW : Below w.heap.size w W) => tsame_any (xn, xs) (yn, ys) l m a b c d W (hS.below hW) (hT.below hW)
  have H21 := hid fun (W : World) (hW : Below w.heap.size w W) => look_any S n cap sg ((xn, xs), l) ((yn, ys), m) a b c d w W (hG.below hW) hS hT hW hM hN
  have HX := hid b1; have HY := hid b2; have HB0 := hid hb0
  have hsz : Hid (((w.alloc (.cells #[.string xn, .int .i64 xs, .slice a (lenF l) c, .string yn, .int .i64 ys, .slice b (lenF m) d] 28)).alloc (.cells zWay 41)).heap.size = w.heap.size + 2) := hid (by simp)
  obtain ⟨cv, hcv⟩ : ∃ cv, (cmpN ((xn, xs), l) ((yn, ys), m) == 0) = cv := ⟨_, rfl⟩
  obtain ⟨V, hV⟩ : ∃ V, oneP sg ((xn, xs), l) ((yn, ys), m) = V := ⟨_, rfl⟩
  rw [hcv] at H19
  rw [hV]
  have HV := hid hV; have HCV := hid hcv
  clear hG hS hT b1 b2 hb0 hcv hV
  cases cv
  · have HVL : Hid (V = lookP sg ((xn, xs), l) ((yn, ys), m)) := hid (by
      rw [← HV.out]; unfold oneP; rw [if_neg (by have := HCV.out; simpa using this)])
    go_enter Tryz.func9, Tryz.ntmps9
    go_wp2_with (first
      | (go_at_call 21; refine (H19.out _ HB0.out).mono ?_; rintro e w1 ⟨rfl, hb1⟩; have HB1 := hid (HB0.out.trans (hb1.mono HB0.out.size)); have X1 := HX.out.below hb1; have HY1 := hid (HY.out.below hb1); have HZ1 : Hid (w.heap.size + 2 ≤ w1.heap.size) := hid (by have := hb1.size; have := hsz.out; omega); have z0 := X1.c 0; have z1 := X1.c 1; have z2 := X1.c 2; have z3 := X1.c 3; have z4 := X1.c 4; have z5 := X1.c 5; clear hb1 X1)
      | (go_at_call 23; refine (H21.out _ HB1.out).mono ?_; rintro e w2 ⟨⟨v, rfl, hv⟩, hb2⟩; have HB12 := hid hb2; have HB2 := hid (HB1.out.trans (hb2.mono HB1.out.size)); have HY2 := hid (HY1.out.below hb2); have HLK := hid hv; have HZ2 : Hid (w1.heap.size ≤ w2.heap.size) := hid hb2.size; clear hb2 hv)
      | (go_at_call 22; refine (cloneWay_any w1.heap.size _ v w w2 HLK.out HB2.out HB1.out.size HZ2.out (by omega)).mono ?_; rintro e w3 ⟨⟨v3, rfl, ho⟩, hb3⟩; have HB3 : Hid (Below w.heap.size w w3) := hid (HB2.out.trans (hb3.mono HB1.out.size)); have Y3 : Box w3 (w.heap.size + 1) 41 zWay := (hb3.block _ (by have := HZ1.out; omega)).trans HY2.out; have HY3 := hid Y3; have HO : Hid (OneAt (w.heap.size + 2) w3 v3 V) := hid (by rw [HVL.out]; exact ho.mono HZ1.out); obtain ⟨tk, ks, la, lc, rfl, hrest⟩ := HO.out.is; have r0 := Y3.c 0; have r1 := Y3.c 1; have r2 := Y3.c 2; have r3 := Y3.c 3; have r4 := Y3.c 4; have r5 := Y3.c 5; have r6 := Y3.c 6; have g0 := Y3.f 0; have g1 := Y3.f 1; have g2 := Y3.f 2; have g3 := Y3.f 3; have g4 := Y3.f 4; have g5 := Y3.f 5; have g6 := Y3.f 6; clear hb3 Y3 ho hrest z0 z1 z2 z3 z4 z5; unfold wayC))
    refine bodyPost_ret (results_cell_row rfl _ _ (w.heap.size + 1) 41 (wayC _ _ _ _ _ _ _ _ _ _) (0, 0) _ rfl (box7_all HY3.out _ _ _ _ _ _ _) Tryz.underlying41 rfl Tryz.size41) rfl ?_
    exact one_end HB3.out HO.out
  · have HVL : Hid (V = actW 1) := hid (by
      rw [← HV.out]; unfold oneP; rw [if_pos (by have := HCV.out; simpa using this)])
    go_enter Tryz.func9, Tryz.ntmps9
    go_wp2_with (go_at_call 21; refine (H19.out _ HB0.out).mono ?_; rintro e w1 ⟨rfl, hb1⟩; have HB1 := hid (HB0.out.trans (hb1.mono HB0.out.size)); have Y1 := HY.out.below hb1; have HY1 := hid Y1; have r0 := Y1.c 0; have r1 := Y1.c 1; have r2 := Y1.c 2; have r3 := Y1.c 3; have r4 := Y1.c 4; have r5 := Y1.c 5; have r6 := Y1.c 6; have g0 := Y1.f 0; have g1 := Y1.f 1; have g2 := Y1.f 2; have g3 := Y1.f 3; have g4 := Y1.f 4; have g5 := Y1.f 5; have g6 := Y1.f 6; clear hb1 Y1)
    refine bodyPost_ret (results_cell_row rfl _ _ (w.heap.size + 1) 41 (wayC 1 noS (noS, 0) none 0 0 none 0 0 0) (0, 0) _ rfl (box7_all HY1.out _ _ _ _ _ _ _) Tryz.underlying41 rfl Tryz.size41) rfl ?_
    exact one_end HB1.out (by
      rw [HVL.out]
      exact ⟨⟨(noS, 0), .nil, none, 0⟩, [], none, 0, rfl, rfl, rfl, .inl ⟨rfl, rfl, rfl⟩, ⟨fun _ => False, fun _ => False, fun _ h => h.elim, fun _ h => h.elim, ⟨⟨by decide, by simp [lenF], by simp, by simp [lenF]⟩, .inl rfl⟩, trivial⟩⟩)
end Go.Proofs.YtfnfbljijkjkjaaGreat
/- Ways that lie in memory, and what the statements' same says of two that are alike. -/
namespace Go.Proofs.YtfnfbljijkjkjaaGreat
open Go.RowKit Go.Deep

/-- The terms' cells lie in this block, from its head on. -/
def CellsAt (w : World) (g : Nat) (ks : List Kv) : Prop := ∀ i u, (kvCells ks)[i]? = some u → w.cell? ⟨g, i, none⟩ = some u
/-- A way in memory, wherever it lies. -/
structure WyAt (w : World) (v : Value) (V : Wy) : Prop where
  is : ∃ a c ks la lc, v = .agg (wayC V.act V.bv V.t.1 a (lenF V.t.2) c la V.ls.length lc V.sym) ∧ TmAt w V.t.1 a c V.t.2 ∧ ks.map Kv.tn = flatL V.ls ∧ (∀ k ∈ ks, TmAt w k.x k.a k.c k.l) ∧ (V.ls.length = 0 ∨ ∃ g, la = some ⟨g, 0, none⟩ ∧ CellsAt w g ks) ∧ V.ls.length ≤ lc
theorem CellsAt.below {w w' : World} {g : Nat} {ks : List Kv} (h : CellsAt w g ks) (hb : Below w.heap.size w w') : CellsAt w' g ks := fun i u hu => below_cell hb _ _ (h i u hu)
theorem WyAt.below {w w' : World} {v : Value} {V : Wy} (h : WyAt w v V) (hb : Below w.heap.size w w') : WyAt w' v V := by
  obtain ⟨a, c, ks, la, lc, h1, h2, h3, h4, h5, h6⟩ := h.is
  refine ⟨a, c, ks, la, lc, h1, h2.below hb, h3, fun k hk => (h4 k hk).below hb, ?_, h6⟩
  rcases h5 with h5 | ⟨g, h7, h8⟩
  · exact .inl h5
  · exact .inr ⟨g, h7, h8.below hb⟩
theorem SepL.tms {w : World} : ∀ {ks : List Kv} {A : Nat → Prop}, SepL w ks A → ∀ k ∈ ks, TmAt w k.x k.a k.c k.l
  | [], _, _, k, hk => absurd hk (by simp)
  | _ :: _, _, ⟨_, _, _, _, h3, h4⟩, k, hk => by
    rcases List.mem_cons.1 hk with rfl | hk
    · exact h3.tm
    · exact SepL.tms h4 k hk
theorem OneAt.wy {base : Nat} {w : World} {v : Value} {V : Wy} (h : OneAt base w v V) : WyAt w v V := by
  obtain ⟨tk, ks, la, lc, h1, h2, h3, h4, h5⟩ := h.is
  have ht := h5.tms
  subst h1
  obtain ⟨act, bv, t, ls, sym⟩ := V
  dsimp only at *
  subst h2
  refine ⟨tk.a, tk.c, ks, la, lc, rfl, ht tk (by simp), h3, fun k hk => ht k (by simp [hk]), ?_, ?_⟩
  · rcases h4 with h4 | ⟨g, g1, g2, g3, g4⟩
    · exact .inl h4.1
    · exact .inr ⟨g, g1, fun i u hu => g4.at hu⟩
  · rcases h4 with h4 | ⟨g, g1, g2, g3, g4⟩
    · show ls.length ≤ lc; omega
    · exact Nat.le_of_eq g3.symm

/-- The cells of an equation, and its two terms. -/
structure EqAt (w : World) (g j : Nat) (p q : Tn) (a b : Option Addr) (c d : Nat) : Prop where
  c0 : w.cell? ⟨g, j * 6, none⟩ = some (.string p.1.1)
  c1 : w.cell? ⟨g, j * 6 + 1, none⟩ = some (.int .i64 p.1.2)
  c2 : w.cell? ⟨g, j * 6 + 2, none⟩ = some (.slice a (lenF p.2) c)
  c3 : w.cell? ⟨g, j * 6 + 3, none⟩ = some (.string q.1.1)
  c4 : w.cell? ⟨g, j * 6 + 4, none⟩ = some (.int .i64 q.1.2)
  c5 : w.cell? ⟨g, j * 6 + 5, none⟩ = some (.slice b (lenF q.2) d)
  l : TmAt w p.1 a c p.2
  r : TmAt w q.1 b d q.2
theorem EqAt.below {w w' : World} {g j : Nat} {p q : Tn} {a b : Option Addr} {c d : Nat} (h : EqAt w g j p q a b c d) (hb : Below w.heap.size w w') : EqAt w' g j p q a b c d :=
  ⟨below_cell hb _ _ h.c0, below_cell hb _ _ h.c1, below_cell hb _ _ h.c2, below_cell hb _ _ h.c3, below_cell hb _ _ h.c4, below_cell hb _ _ h.c5, h.l.below hb, h.r.below hb⟩
theorem flat_at : ∀ (ls : List (Tn × Tn)) (j : Nat) (h : j < ls.length), (flatL ls)[2 * j]? = some ls[j].1 ∧ (flatL ls)[2 * j + 1]? = some ls[j].2
  | [], j, h => absurd h (by simp)
  | p :: r, 0, _ => ⟨rfl, rfl⟩
  | p :: r, j + 1, h => by
    have ih := flat_at r j (by simpa using h)
    have e : flatL (p :: r) = p.1 :: p.2 :: flatL r := rfl
    rw [e, show 2 * (j + 1) = 2 * j + 1 + 1 by omega, show 2 * j + 1 + 1 + 1 = (2 * j + 1) + 1 + 1 by omega]
    simp only [List.getElem?_cons_succ, List.getElem_cons_succ]
    exact ih
theorem eq_at {w : World} {g : Nat} {ks : List Kv} {ls : List (Tn × Tn)} (hc : CellsAt w g ks) (hk : ks.map Kv.tn = flatL ls) (ht : ∀ k ∈ ks, TmAt w k.x k.a k.c k.l) {j : Nat} (hj : j < ls.length) : ∃ a b c d, EqAt w g j ls[j].1 ls[j].2 a b c d := by
  have hl : ks.length = 2 * ls.length := by
    have := congrArg List.length hk
    rwa [List.length_map, flat_len] at this
  obtain ⟨f1, f2⟩ := flat_at ls j hj
  rw [← hk, List.getElem?_map] at f1 f2
  rw [List.getElem?_eq_getElem (by omega), Option.map_some, Option.some.injEq] at f1 f2
  have a1 := kv_at ks (2 * j) (by omega)
  have a2 := kv_at ks (2 * j + 1) (by omega)
  rw [show 2 * j * 3 = j * 6 by omega] at a1
  rw [show (2 * j + 1) * 3 = j * 6 + 3 by omega] at a2
  have t1 := ht ks[2 * j] (List.getElem_mem _)
  have t2 := ht ks[2 * j + 1] (List.getElem_mem _)
  rw [← f1, ← f2]
  exact ⟨ks[2 * j].a, ks[2 * j + 1].a, ks[2 * j].c, ks[2 * j + 1].c, hc _ _ a1.1, hc _ _ a1.2.1, hc _ _ a1.2.2, hc _ _ a2.1, hc _ _ a2.2.1, hc _ _ a2.2.2, t1, t2⟩

end Go.Proofs.YtfnfbljijkjkjaaGreat
/- What the statements' plain answers. -/
namespace Go.Proofs.YtfnfbljijkjkjaaGreat
open Go.RowKit Go.Deep

def isC (l : List Sym) (t : Tn) : Bool := exN (canonT (sgOf l) t).1 t.1 (canonT (sgOf l) t).2 t.2
def plainB (l : List Sym) (A B : Tn) : Bool := (rightB l A && rightB l B) && (isC (l.map plainS) A && isC (l.map plainS) B)

set_option maxRecDepth 100000 in
set_option maxHeartbeats 4000000 in
theorem plain_any (S : Option Addr) (n cap : Nat) (sg : List Sym) (s t : Tn) (a b : Option Addr) (c d : Nat) (w : World) (hG : SigAt w S n sg) (hS : TmAt w s.1 a c s.2) (hT : TmAt w t.1 b d t.2) (hM : nodesF s.2 ≤ 1048576) (hN : nodesF t.2 ≤ 1048576) (hn : n ≤ 1048576) :
    Calls Tryz.prog 6 #[.slice S n cap, .agg #[.string s.1.1, .int .i64 s.1.2, .slice a (lenF s.2) c, .string t.1.1, .int .i64 t.1.2, .slice b (lenF t.2) d]] w fun e w' => e = .returned (.bool (plainB sg s t)) ∧ Below w.heap.size w w' := by
  obtain ⟨⟨xn, xs⟩, l⟩ := s
  obtain ⟨⟨yn, ys⟩, m⟩ := t
  dsimp only at *
  have HB0 := hid (alloc_below0 w (.cells #[.string xn, .int .i64 xs, .slice a (lenF l) c, .string yn, .int .i64 ys, .slice b (lenF m) d] 28))
  have HX := hid (Box.new w 28 #[.string xn, .int .i64 xs, .slice a (lenF l) c, .string yn, .int .i64 ys, .slice b (lenF m) d])
  have H1 := hid fun (W : World) (hW : Below w.heap.size w W) => rright_any S n cap sg ((xn, xs), l) a c W (hG.below hW) (hS.below hW)
  have H2 := hid fun (W : World) (hW : Below w.heap.size w W) => rright_any S n cap sg ((yn, ys), m) b d W (hG.below hW) (hT.below hW)
  have H3 := hid fun (W : World) (hW : Below w.heap.size w W) => rplain_any S n cap sg W (hG.below hW) (by omega)
  have H4 := hid fun (W : World) (a' : Option Addr) (cap' : Nat) (hW : Below w.heap.size w W) (h : SigAt W a' n (sg.map plainS)) => is_any a' n cap' (sg.map plainS) ((xn, xs), l) a c W h (hS.below hW) hM
  have H5 := hid fun (W : World) (a' : Option Addr) (cap' : Nat) (hW : Below w.heap.size w W) (h : SigAt W a' n (sg.map plainS)) => is_any a' n cap' (sg.map plainS) ((yn, ys), m) b d W h (hT.below hW) hN
  obtain ⟨r1, h1⟩ : ∃ r1, rightB sg ((xn, xs), l) = r1 := ⟨_, rfl⟩
  obtain ⟨r2, h2⟩ : ∃ r2, rightB sg ((yn, ys), m) = r2 := ⟨_, rfl⟩
  obtain ⟨r3, h3⟩ : ∃ r3, isC (sg.map plainS) ((xn, xs), l) = r3 := ⟨_, rfl⟩
  obtain ⟨r4, h4⟩ : ∃ r4, isC (sg.map plainS) ((yn, ys), m) = r4 := ⟨_, rfl⟩
  unfold plainB
  rw [h1, h2, h3, h4]
  unfold isC at h3 h4
  rw [h1] at H1
  rw [h2] at H2
  simp only [h3] at H4
  simp only [h4] at H5
  clear hG hS hT h1 h2 h3 h4
  dsimp only at *
  cases r1 <;> cases r2 <;> cases r3 <;> cases r4
  all_goals
    go_enter Tryz.func6, Tryz.ntmps6
    go_wp2_with (first
      | (go_at_call 18; (with_reducible refine (H2.out _ HB1.out).mono ?_); rintro e w2 ⟨rfl, hb2⟩; have HB2 := hid (HB1.out.trans (hb2.mono HB1.out.size)); have X2 := HX1.out.below hb2; have HX2 := hid X2; have z0 := X2.c 0; have z1 := X2.c 1; have z2 := X2.c 2; have z3 := X2.c 3; have z4 := X2.c 4; have z5 := X2.c 5; clear hb2 X2)
      | (go_at_call 18; (with_reducible refine (H1.out _ HB0.out).mono ?_); rintro e w1 ⟨rfl, hb1⟩; have HB1 := hid (HB0.out.trans (hb1.mono HB0.out.size)); have X1 := HX.out.below hb1; have HX1 := hid X1; have y3 := X1.c 3; have y4 := X1.c 4; have y5 := X1.c 5; clear hb1 X1)
      | (go_at_call 7; (with_reducible refine (H3.out _ HB2.out).mono ?_); rintro e w3 ⟨a', cap', rfl, hsg, hb3⟩; have HSG := hid hsg; have HB3 := hid (HB2.out.trans (hb3.mono HB2.out.size)); have X3 := HX2.out.below hb3; have HX3 := hid X3; have q0 := X3.c 0; have q1 := X3.c 1; have q2 := X3.c 2; clear hb3 X3 hsg)
      | (go_at_call 19; (with_reducible refine (H5.out _ _ _ HB4.out HSG4.out).mono ?_); rintro e w5 ⟨rfl, hb5⟩; have HB5 := hid (HB4.out.trans (hb5.mono HB4.out.size)); clear hb5)
      | (go_at_call 19; (with_reducible refine (H4.out _ _ _ HB3.out HSG.out).mono ?_); rintro e w4 ⟨rfl, hb4⟩; have HB4 := hid (HB3.out.trans (hb4.mono HB3.out.size)); have HSG4 := hid (HSG.out.below hb4); have X4 := HX3.out.below hb4; have v3 := X4.c 3; have v4 := X4.c 4; have v5 := X4.c 5; clear hb4 X4))
    go_ret
    first
      | exact ⟨rfl, HB5.out⟩
      | exact ⟨rfl, HB2.out⟩
end Go.Proofs.YtfnfbljijkjkjaaGreat
