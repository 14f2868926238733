import Derived.Test.YtfnfbljijkjkjaaGreatM5
/- What is to be done with an equation, plainly; setTo, ofVar, ofVars, isFree, Same of the program. -/
namespace Go.Proofs.YtfnfbljijkjkjaaGreat
open Go.RowKit Go.Deep

theorem hid {p : Prop} (h : p) : Hid p := h
theorem alloc_below0 (W : World) (o : Obj) : Below W.heap.size W (W.alloc o) := (Below.refl _ W).alloc (Nat.le_refl _) o
def Box (W : World) (B : Nat) (T : TypeId) (cs : Array Value) : Prop := W.heap[B]? = some (.cells cs T (0, 0))
theorem Box.new (W : World) (T : TypeId) (cs : Array Value) : Box (W.alloc (.cells cs T)) W.heap.size T cs := World.alloc_heap_new W _
theorem Box.c {W : World} {B : Nat} {T : TypeId} {cs : Array Value} (h : Box W B T cs) (k : Nat) : W.cell? ⟨B, k, none⟩ = cs[k]? := by simp [World.cell?, show W.heap[B]? = _ from h]
theorem Box.f {W : World} {B : Nat} {T : TypeId} {cs : Array Value} (h : Box W B T cs) (k : Nat) : W.frozen? ⟨B, k, none⟩ = false := by simp [World.frozen?, show W.heap[B]? = _ from h]
theorem Box.lt {W : World} {B : Nat} {T : TypeId} {cs : Array Value} (h : Box W B T cs) : B < W.heap.size := (Array.getElem?_eq_some_iff.1 h).1
theorem Box.below {W W' : World} {B : Nat} {T : TypeId} {cs : Array Value} (h : Box W B T cs) (hb : Below W.heap.size W W') : Box W' B T cs := (hb.block B h.lt).trans h
theorem Box.set {W : World} {B : Nat} {T : TypeId} {cs : Array Value} (h : Box W B T cs) (k : Nat) (u : Value) : Box (W.setCell ⟨B, k, none⟩ u) B T (cs.setIfInBounds k u) := block_set h u
theorem Box.far {W : World} {B q : Nat} {T : TypeId} {cs : Array Value} (h : Box W B T cs) (hq : B ≠ q) (k : Nat) (u : Value) : Box (W.setCell ⟨q, k, none⟩ u) B T cs := (Below.heap_setCell W ⟨q, k, none⟩ u B hq).trans h
theorem Box.over {W : World} {B : Nat} {T : TypeId} {cs : Array Value} (h : Box W B T cs) (o : Obj) : Box (W.alloc o) B T cs := (Below.heap_alloc W o B h.lt).trans h

/-! ### plain -/
abbrev noS : ByteArray := ⟨#[]⟩
def zT : Tn := ((noS, 0), .nil)
/-- What is to be done: what, the variable, its term, equations, the symbol. -/
structure Wy where
  act : Int
  bv : ByteArray
  t : Tn
  ls : List (Tn × Tn)
  sym : Int
def actW (k : Int) : Wy := ⟨k, noS, zT, [], 0⟩
def setW (nm : ByteArray) (t : Tn) : Wy := ⟨3, nm, t, [], 0⟩
def ofVarsP (l r : Tn) : Wy := if cmpN l r = 0 then actW 1 else if cmpN l r = 1 then setW l.1.1 r else setW r.1.1 l
def ofVarP (nm : ByteArray) (t : Tn) : Wy := if hasT nm t.1 t.2 = true then actW 2 else setW nm t
def kindAt (s : List Sym) (i : Int) : Int := match s[i.toNat]? with | some x => x.kind | none => 0
def freeB (s : List Sym) (i : Int) : Bool := decide (0 ≤ i) && (decide (i < s.length) && decide (kindAt s i = 1))
def sideP (l r : Fo) : Wy := if lenF l = lenF r then ⟨4, noS, zT, (kidsL l).zip (kidsL r), 0⟩ else actW 2
def lookP (s : List Sym) (l r : Tn) : Wy :=
  if noName l.1.1 = false then (if noName r.1.1 = false then ofVarsP l r else ofVarP l.1.1 r)
  else if noName r.1.1 = false then ofVarP r.1.1 l
  else if l.1.2 = r.1.2 then (if freeB s l.1.2 = true then sideP l.2 r.2 else ⟨5, noS, zT, [], l.1.2⟩) else actW 2
def oneP (s : List Sym) (l r : Tn) : Wy := if cmpN l r = 0 then actW 1 else lookP s l r

/-! ### memory -/
/-- A way's value. -/
def wayC (act : Int) (bv : ByteArray) (x : ByteArray × Int) (a : Option Addr) (n c : Nat) (la : Option Addr) (ln lc : Nat) (sym : Int) : Array Value :=
  #[.int .i64 act, .string bv, .string x.1, .int .i64 x.2, .slice a n c, .slice la ln lc, .int .i64 sym]
theorem Tryz.size41 : (Tryz.prog.info? 41).map (·.size) = some 7 := by kernel_rfl
theorem Tryz.info28 : (Tryz.prog.info? 28).map (fun i => (i.zero, i.size, i.bytes)) = some (some (.agg #[.string ⟨#[]⟩, .int .i64 0, .slice none 0 0, .string ⟨#[]⟩, .int .i64 0, .slice none 0 0]), 6, 96) := by kernel_rfl
theorem box7_all {W : World} {B : Nat} {y0 y1 y2 y3 y4 y5 y6 : Value} (h : Box W B 41 #[y0, y1, y2, y3, y4, y5, y6]) (x0 x1 x2 x3 x4 x5 x6 : Value) :
    Box (((((((W.setCell ⟨B, 0, none⟩ x0).setCell ⟨B, 1, none⟩ x1).setCell ⟨B, 2, none⟩ x2).setCell ⟨B, 3, none⟩ x3).setCell ⟨B, 4, none⟩ x4).setCell ⟨B, 5, none⟩ x5).setCell ⟨B, 6, none⟩ x6) B 41 #[x0, x1, x2, x3, x4, x5, x6] := by
  have h0 : Box (W.setCell ⟨B, 0, none⟩ x0) B 41 #[x0, y1, y2, y3, y4, y5, y6] := block_set (k := 0) h x0
  have h1 : Box ((W.setCell ⟨B, 0, none⟩ x0).setCell ⟨B, 1, none⟩ x1) B 41 #[x0, x1, y2, y3, y4, y5, y6] := block_set (k := 1) h0 x1
  generalize (W.setCell ⟨B, 0, none⟩ x0).setCell ⟨B, 1, none⟩ x1 = W1 at h1 ⊢
  have h2 : Box (W1.setCell ⟨B, 2, none⟩ x2) B 41 #[x0, x1, x2, y3, y4, y5, y6] := block_set (k := 2) h1 x2
  have h3 : Box ((W1.setCell ⟨B, 2, none⟩ x2).setCell ⟨B, 3, none⟩ x3) B 41 #[x0, x1, x2, x3, y4, y5, y6] := block_set (k := 3) h2 x3
  generalize (W1.setCell ⟨B, 2, none⟩ x2).setCell ⟨B, 3, none⟩ x3 = W2 at h3 ⊢
  have h4 : Box (W2.setCell ⟨B, 4, none⟩ x4) B 41 #[x0, x1, x2, x3, x4, y5, y6] := block_set (k := 4) h3 x4
  have h5 : Box ((W2.setCell ⟨B, 4, none⟩ x4).setCell ⟨B, 5, none⟩ x5) B 41 #[x0, x1, x2, x3, x4, x5, y6] := block_set (k := 5) h4 x5
  generalize (W2.setCell ⟨B, 4, none⟩ x4).setCell ⟨B, 5, none⟩ x5 = W3 at h5 ⊢
  exact block_set (k := 6) h5 x6
theorem sets7_far {W : World} {B q : Nat} (h : q ≠ B) (x0 x1 x2 x3 x4 x5 x6 : Value) :
    (((((((W.setCell ⟨B, 0, none⟩ x0).setCell ⟨B, 1, none⟩ x1).setCell ⟨B, 2, none⟩ x2).setCell ⟨B, 3, none⟩ x3).setCell ⟨B, 4, none⟩ x4).setCell ⟨B, 5, none⟩ x5).setCell ⟨B, 6, none⟩ x6).heap[q]? = W.heap[q]? :=
  ((((((Below.heap_setCell _ _ _ _ h).trans (Below.heap_setCell _ _ _ _ h)).trans (Below.heap_setCell _ _ _ _ h)).trans (Below.heap_setCell _ _ _ _ h)).trans (Below.heap_setCell _ _ _ _ h)).trans (Below.heap_setCell _ _ _ _ h)).trans (Below.heap_setCell _ _ _ _ h)
theorem sets7_below {n0 : Nat} {w W : World} {B : Nat} (hb : Below n0 w W) (h : n0 ≤ B) (x0 x1 x2 x3 x4 x5 x6 : Value) :
    Below n0 w (((((((W.setCell ⟨B, 0, none⟩ x0).setCell ⟨B, 1, none⟩ x1).setCell ⟨B, 2, none⟩ x2).setCell ⟨B, 3, none⟩ x3).setCell ⟨B, 4, none⟩ x4).setCell ⟨B, 5, none⟩ x5).setCell ⟨B, 6, none⟩ x6) :=
  ((((((hb.setCell (p := ⟨B, 0, none⟩) h _).setCell (p := ⟨B, 1, none⟩) h _).setCell (p := ⟨B, 2, none⟩) h _).setCell (p := ⟨B, 3, none⟩) h _).setCell (p := ⟨B, 4, none⟩) h _).setCell (p := ⟨B, 5, none⟩) h _).setCell (p := ⟨B, 6, none⟩) h _

theorem box_new {W : World} {g : Nat} (hg : W.heap.size = g) (T : TypeId) (cs : Array Value) : Box (W.alloc (.cells cs T)) g T cs := by subst hg; exact Box.new W T cs
set_option maxRecDepth 100000 in
set_option maxHeartbeats 2000000 in
theorem setTo_any (nm : ByteArray) (x : ByteArray × Int) (a : Option Addr) (n c : Nat) (w : World) :
    Calls Tryz.prog 68 #[.string nm, .agg #[.string x.1, .int .i64 x.2, .slice a n c]] w fun e w' => e = .returned (.agg (wayC 3 nm x a n c none 0 0 0)) ∧ Below w.heap.size w w' := by
  go_enter Tryz.func68, Tryz.ntmps68
  go_wp2
  refine bodyPost_ret (results_cell_row rfl _ _ (w.heap.size + 1) 41 (wayC 3 nm x a n c none 0 0 0) (0, 0) _ rfl (box_new (by simp) 41 _) Tryz.underlying41 rfl Tryz.size41) rfl ?_
  exact ⟨rfl, ((Below.refl _ w).alloc (Nat.le_refl _) _).alloc (by simp) _⟩

/-- Two boxes of the callee's: its term, its answer. -/
theorem two_new (w : World) (c1 : Array Value) (t1 : TypeId) (c2 : Array Value) (t2 : TypeId) : Box ((w.alloc (.cells c1 t1)).alloc (.cells c2 t2)) w.heap.size t1 c1 ∧ Box ((w.alloc (.cells c1 t1)).alloc (.cells c2 t2)) (w.heap.size + 1) t2 c2 ∧ Below w.heap.size w ((w.alloc (.cells c1 t1)).alloc (.cells c2 t2)) :=
  ⟨(Box.new w t1 c1).over _, box_new (by simp) t2 c2, ((Below.refl _ w).alloc (Nat.le_refl _) _).alloc (by simp) _⟩
abbrev zWay : Array Value := #[.int .i64 0, .string ⟨#[]⟩, .string ⟨#[]⟩, .int .i64 0, .slice none 0 0, .slice none 0 0, .int .i64 0]

/-- What a way that lies in memory is. -/
structure WayAt (w : World) (v : Value) (W : Wy) : Prop where
  is : ∃ a c la lc, v = .agg (wayC W.act W.bv W.t.1 a (lenF W.t.2) c la W.ls.length lc W.sym) ∧ TmAt w W.t.1 a c W.t.2 ∧ (W.ls = [] → la = none ∧ lc = 0)
theorem zT_at (w : World) : TmAt w (noS, 0) none 0 .nil := ⟨⟨by decide, by simp [lenF], by simp, by simp [lenF]⟩, .inl rfl⟩

set_option maxRecDepth 100000 in
set_option maxHeartbeats 2000000 in
theorem ofVar_any (nm : ByteArray) (t : Tn) (a : Option Addr) (c : Nat) (w0 w : World) (hT0 : TmAt w0 t.1 a c t.2) (hw : Below w0.heap.size w0 w) (hM : nodesF t.2 ≤ 1048576) :
    Calls Tryz.prog 43 #[.string nm, .agg #[.string t.1.1, .int .i64 t.1.2, .slice a (lenF t.2) c]] w fun e w' => (∃ v, e = .returned v ∧ WayAt w0 v (ofVarP nm t)) ∧ Below w.heap.size w w' := by
  have hT := hT0.below hw
  obtain ⟨⟨xn, xs⟩, l⟩ := t
  obtain ⟨b1, b2, hb0⟩ := two_new w #[.string xn, .int .i64 xs, .slice a (lenF l) c] 26 zWay 41
  have HT := hid hT0
  have HC := hid fun (W : World) (hW : Below w.heap.size w W) => has_any (xn, xs) l a c nm W (hT.below hW) (by dsimp only at hM; omega)
  have HS := hid fun (W : World) => setTo_any nm (xn, xs) a (lenF l) c W
  obtain ⟨hv, hhv⟩ : ∃ hv, hasT nm (xn, xs) l = hv := ⟨_, rfl⟩
  unfold ofVarP
  dsimp only at *
  rw [hhv] at HC ⊢
  have HX := hid b1; have HY := hid b2; have HB0 := hid hb0
  clear hT hT0 hw b1 b2 hb0 hhv
  cases hv
  · go_enter Tryz.func43, Tryz.ntmps43
    go_wp2_with (first
      | (go_at_call 69; refine (HC.out _ HB0.out).mono ?_; rintro e w1 ⟨rfl, hb1⟩; have HB1 := hid (HB0.out.trans (hb1.mono HB0.out.size)); have X1 := HX.out.below hb1; have Y1 := HY.out.below hb1; have HY1 := hid Y1; have z0 := X1.c 0; have z1 := X1.c 1; have z2 := X1.c 2; clear hb1 X1 Y1)
      | (go_at_call 68; refine (HS.out _).mono ?_; rintro e w2 ⟨rfl, hb2⟩; have HB2 := hid (HB1.out.trans (hb2.mono HB1.out.size)); have Y2 := HY1.out.below hb2; have HY2 := hid Y2; have r0 := Y2.c 0; have r1 := Y2.c 1; have r2 := Y2.c 2; have r3 := Y2.c 3; have r4 := Y2.c 4; have r5 := Y2.c 5; have r6 := Y2.c 6; have g0 := Y2.f 0; have g1 := Y2.f 1; have g2 := Y2.f 2; have g3 := Y2.f 3; have g4 := Y2.f 4; have g5 := Y2.f 5; have g6 := Y2.f 6; clear hb2 Y2; unfold wayC))
    refine bodyPost_ret (results_cell_row rfl _ _ (w.heap.size + 1) 41 (wayC 3 nm (xn, xs) a (lenF l) c none 0 0 0) (0, 0) _ rfl (box7_all HY2.out _ _ _ _ _ _ _) Tryz.underlying41 rfl Tryz.size41) rfl ?_
    have hB := sets7_below (B := w.heap.size + 1) HB2.out (by omega) (.int .i64 3) (.string nm) (.string xn) (.int .i64 xs) (.slice a (lenF l) c) (.slice none 0 0) (.int .i64 0)
    exact ⟨⟨_, rfl, ⟨a, c, none, 0, rfl, HT.out, fun _ => ⟨rfl, rfl⟩⟩⟩, hB⟩
  · go_enter Tryz.func43, Tryz.ntmps43
    go_wp2_with (first
      | (go_at_call 69; refine (HC.out _ HB0.out).mono ?_; rintro e w1 ⟨rfl, hb1⟩; have HB1 := hid (HB0.out.trans (hb1.mono HB0.out.size)); have Y1 := HY.out.below hb1; have HY1 := hid Y1; have r0 := Y1.c 0; have r1 := Y1.c 1; have r2 := Y1.c 2; have r3 := Y1.c 3; have r4 := Y1.c 4; have r5 := Y1.c 5; have r6 := Y1.c 6; have g0 := Y1.f 0; have g1 := Y1.f 1; have g2 := Y1.f 2; have g3 := Y1.f 3; have g4 := Y1.f 4; have g5 := Y1.f 5; have g6 := Y1.f 6; clear hb1 Y1))
    refine bodyPost_ret (results_cell_row rfl _ _ (w.heap.size + 1) 41 (wayC 2 noS (noS, 0) none 0 0 none 0 0 0) (0, 0) _ rfl (box7_all HY1.out _ _ _ _ _ _ _) Tryz.underlying41 rfl Tryz.size41) rfl ?_
    have hB := sets7_below (B := w.heap.size + 1) HB1.out (by omega) (.int .i64 2) (.string noS) (.string noS) (.int .i64 0) (.slice none 0 0) (.slice none 0 0) (.int .i64 0)
    exact ⟨⟨_, rfl, ⟨none, 0, none, 0, rfl, zT_at _, fun _ => ⟨rfl, rfl⟩⟩⟩, hB⟩
end Go.Proofs.YtfnfbljijkjkjaaGreat
