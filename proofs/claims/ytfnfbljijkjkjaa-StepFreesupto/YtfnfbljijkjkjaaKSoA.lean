import Derived.Test.YtfnfbljijkjkjaaRIs
import Derived.Test.YtfnfbljijkjkjaaTRSize
import Derived.Test.YtfnfbljijkjkjaaTCmp
import Derived.Test.YtfnfbljijkjkjaaTClone
import Derived.Test.YtfnfbljijkjkjaaTSpoil
import Derived.Deep.RegionHeld3
import Derived.BigRegion
import Derived.Test.YtfnfbljijkjkjaaRows
import Derived.Test.YtfnfbljijkjkjaaTMem
import Derived.Lib.SmallJoins
import Derived.SizedLaws
import Derived.ProofKit
import Derived.OpenShut
import Derived.ShutString
import Derived.ChangeOld
import Derived.SliceStrings
import Derived.ChangeMaps5
import Derived.JoinedCond
import Derived.Deep.DeepCutAuto
import Derived.Test.YtfnfbljijkjkjaaLater
import Derived.Test.YtfnfbljijkjkjaaSigMem
import Derived.Deep.AppendLies
import Derived.Deep.AppendSrc
/- What is to be done with an equation, plainly; setTo, ofVar, ofVars, isFree, Same of the program. -/
namespace Go.Proofs.Ytfnfbljijkjkjaa
open Go.RowKit Go.Deep

theorem hid {p : Prop} (h : p) : Hid p := h
theorem alloc_below0 (W : World) (o : Obj) : Below W.heap.size W (W.alloc o) := (Below.refl _ W).alloc (Nat.le_refl _) o
def Box (W : World) (B : Nat) (T : TypeId) (cs : Array Value) : Prop := W.heap[B]? = some (.cells cs T (0, 0))
theorem Box.new (W : World) (T : TypeId) (cs : Array Value) : Box (W.alloc (.cells cs T)) W.heap.size T cs := World.alloc_heap_new W _
theorem Box.c {W : World} {B : Nat} {T : TypeId} {cs : Array Value} (h : Box W B T cs) (k : Nat) : W.cell? ⟨B, k, none⟩ = cs[k]? := by simp [World.cell?, show W.heap[B]? = _ from h]
theorem Box.f {W : World} {B : Nat} {T : TypeId} {cs : Array Value} (h : Box W B T cs) (k : Nat) : W.frozen? ⟨B, k, none⟩ = false := by simp [World.frozen?, show W.heap[B]? = _ from h]
theorem Box.lt {W : World} {B : Nat} {T : TypeId} {cs : Array Value} (h : Box W B T cs) : B < W.heap.size := (Array.getElem?_eq_some_iff.1 h).1
theorem Box.below {W W' : World} {B : Nat} {T : TypeId} {cs : Array Value} (h : Box W B T cs) (hb : Below W.heap.size W W') : Box W' B T cs := (hb.block B h.lt).trans h
theorem Box.set {W : World} {B : Nat} {T : TypeId} {cs : Array Value} (h : Box W B T cs) (k : Nat) (u : Value) : Box (W.setCell ⟨B, k, none⟩ u) B T (cs.setIfInBounds k u) := block_set h u
theorem Box.far {W : World} {B q : Nat} {T : TypeId} {cs : Array Value} (h : Box W B T cs) (hq : B ≠ q) (k : Nat) (u : Value) : Box (W.setCell ⟨q, k, none⟩ u) B T cs := (Below.heap_setCell W ⟨q, k, none⟩ u B hq).trans h
theorem Box.over {W : World} {B : Nat} {T : TypeId} {cs : Array Value} (h : Box W B T cs) (o : Obj) : Box (W.alloc o) B T cs := (Below.heap_alloc W o B h.lt).trans h

/-! ### plain -/
abbrev noS : ByteArray := ⟨#[]⟩
def zT : Tn := ((noS, 0), .nil)
/-- What is to be done: what, the variable, its term, equations, the symbol. -/
structure Wy where
  act : Int
  bv : ByteArray
  t : Tn
  ls : List (Tn × Tn)
  sym : Int
def actW (k : Int) : Wy := ⟨k, noS, zT, [], 0⟩
def setW (nm : ByteArray) (t : Tn) : Wy := ⟨3, nm, t, [], 0⟩
def ofVarsP (l r : Tn) : Wy := if cmpN l r = 0 then actW 1 else if cmpN l r = 1 then setW l.1.1 r else setW r.1.1 l
def ofVarP (nm : ByteArray) (t : Tn) : Wy := if hasT nm t.1 t.2 = true then actW 2 else setW nm t
def kindAt (s : List Sym) (i : Int) : Int := match s[i.toNat]? with | some x => x.kind | none => 0
def freeB (s : List Sym) (i : Int) : Bool := decide (0 ≤ i) && (decide (i < s.length) && decide (kindAt s i = 1))
def sideP (l r : Fo) : Wy := if lenF l = lenF r then ⟨4, noS, zT, (kidsL l).zip (kidsL r), 0⟩ else actW 2
def lookP (s : List Sym) (l r : Tn) : Wy :=
  if noName l.1.1 = false then (if noName r.1.1 = false then ofVarsP l r else ofVarP l.1.1 r)
  else if noName r.1.1 = false then ofVarP r.1.1 l
  else if l.1.2 = r.1.2 then (if freeB s l.1.2 = true then sideP l.2 r.2 else ⟨5, noS, zT, [], l.1.2⟩) else actW 2
def oneP (s : List Sym) (l r : Tn) : Wy := if cmpN l r = 0 then actW 1 else lookP s l r

/-! ### memory -/
/-- A way's value. -/
def wayC (act : Int) (bv : ByteArray) (x : ByteArray × Int) (a : Option Addr) (n c : Nat) (la : Option Addr) (ln lc : Nat) (sym : Int) : Array Value :=
  #[.int .i64 act, .string bv, .string x.1, .int .i64 x.2, .slice a n c, .slice la ln lc, .int .i64 sym]
theorem Try.size36 : (Try.prog.info? 36).map (·.size) = some 7 := by kernel_rfl
theorem Try.info28 : (Try.prog.info? 28).map (fun i => (i.zero, i.size, i.bytes)) = some (some (.agg #[.string ⟨#[]⟩, .int .i64 0, .slice none 0 0, .string ⟨#[]⟩, .int .i64 0, .slice none 0 0]), 6, 96) := by kernel_rfl
theorem box7_all {W : World} {B : Nat} {y0 y1 y2 y3 y4 y5 y6 : Value} (h : Box W B 36 #[y0, y1, y2, y3, y4, y5, y6]) (x0 x1 x2 x3 x4 x5 x6 : Value) :
    Box (((((((W.setCell ⟨B, 0, none⟩ x0).setCell ⟨B, 1, none⟩ x1).setCell ⟨B, 2, none⟩ x2).setCell ⟨B, 3, none⟩ x3).setCell ⟨B, 4, none⟩ x4).setCell ⟨B, 5, none⟩ x5).setCell ⟨B, 6, none⟩ x6) B 36 #[x0, x1, x2, x3, x4, x5, x6] := by
  have h0 : Box (W.setCell ⟨B, 0, none⟩ x0) B 36 #[x0, y1, y2, y3, y4, y5, y6] := block_set (k := 0) h x0
  have h1 : Box ((W.setCell ⟨B, 0, none⟩ x0).setCell ⟨B, 1, none⟩ x1) B 36 #[x0, x1, y2, y3, y4, y5, y6] := block_set (k := 1) h0 x1
  generalize (W.setCell ⟨B, 0, none⟩ x0).setCell ⟨B, 1, none⟩ x1 = W1 at h1 ⊢
  have h2 : Box (W1.setCell ⟨B, 2, none⟩ x2) B 36 #[x0, x1, x2, y3, y4, y5, y6] := block_set (k := 2) h1 x2
  have h3 : Box ((W1.setCell ⟨B, 2, none⟩ x2).setCell ⟨B, 3, none⟩ x3) B 36 #[x0, x1, x2, x3, y4, y5, y6] := block_set (k := 3) h2 x3
  generalize (W1.setCell ⟨B, 2, none⟩ x2).setCell ⟨B, 3, none⟩ x3 = W2 at h3 ⊢
  have h4 : Box (W2.setCell ⟨B, 4, none⟩ x4) B 36 #[x0, x1, x2, x3, x4, y5, y6] := block_set (k := 4) h3 x4
  have h5 : Box ((W2.setCell ⟨B, 4, none⟩ x4).setCell ⟨B, 5, none⟩ x5) B 36 #[x0, x1, x2, x3, x4, x5, y6] := block_set (k := 5) h4 x5
  generalize (W2.setCell ⟨B, 4, none⟩ x4).setCell ⟨B, 5, none⟩ x5 = W3 at h5 ⊢
  exact block_set (k := 6) h5 x6
theorem sets7_far {W : World} {B q : Nat} (h : q ≠ B) (x0 x1 x2 x3 x4 x5 x6 : Value) :
    (((((((W.setCell ⟨B, 0, none⟩ x0).setCell ⟨B, 1, none⟩ x1).setCell ⟨B, 2, none⟩ x2).setCell ⟨B, 3, none⟩ x3).setCell ⟨B, 4, none⟩ x4).setCell ⟨B, 5, none⟩ x5).setCell ⟨B, 6, none⟩ x6).heap[q]? = W.heap[q]? :=
  ((((((Below.heap_setCell _ _ _ _ h).trans (Below.heap_setCell _ _ _ _ h)).trans (Below.heap_setCell _ _ _ _ h)).trans (Below.heap_setCell _ _ _ _ h)).trans (Below.heap_setCell _ _ _ _ h)).trans (Below.heap_setCell _ _ _ _ h)).trans (Below.heap_setCell _ _ _ _ h)
theorem sets7_below {n0 : Nat} {w W : World} {B : Nat} (hb : Below n0 w W) (h : n0 ≤ B) (x0 x1 x2 x3 x4 x5 x6 : Value) :
    Below n0 w (((((((W.setCell ⟨B, 0, none⟩ x0).setCell ⟨B, 1, none⟩ x1).setCell ⟨B, 2, none⟩ x2).setCell ⟨B, 3, none⟩ x3).setCell ⟨B, 4, none⟩ x4).setCell ⟨B, 5, none⟩ x5).setCell ⟨B, 6, none⟩ x6) :=
  ((((((hb.setCell (p := ⟨B, 0, none⟩) h _).setCell (p := ⟨B, 1, none⟩) h _).setCell (p := ⟨B, 2, none⟩) h _).setCell (p := ⟨B, 3, none⟩) h _).setCell (p := ⟨B, 4, none⟩) h _).setCell (p := ⟨B, 5, none⟩) h _).setCell (p := ⟨B, 6, none⟩) h _

theorem box_new {W : World} {g : Nat} (hg : W.heap.size = g) (T : TypeId) (cs : Array Value) : Box (W.alloc (.cells cs T)) g T cs := by subst hg; exact Box.new W T cs
set_option maxRecDepth 100000 in
set_option maxHeartbeats 2000000 in
theorem setTo_any (nm : ByteArray) (x : ByteArray × Int) (a : Option Addr) (n c : Nat) (w : World) :
    Calls Try.prog 63 #[.string nm, .agg #[.string x.1, .int .i64 x.2, .slice a n c]] w fun e w' => e = .returned (.agg (wayC 3 nm x a n c none 0 0 0)) ∧ Below w.heap.size w w' := by
  go_enter Try.func63, Try.ntmps63
  go_wp2
  refine bodyPost_ret (results_cell_row rfl _ _ (w.heap.size + 1) 36 (wayC 3 nm x a n c none 0 0 0) (0, 0) _ rfl (box_new (by simp) 36 _) Try.underlying36 rfl Try.size36) rfl ?_
  exact ⟨rfl, ((Below.refl _ w).alloc (Nat.le_refl _) _).alloc (by simp) _⟩

/-- Two boxes of the callee's: its term, its answer. -/
theorem two_new (w : World) (c1 : Array Value) (t1 : TypeId) (c2 : Array Value) (t2 : TypeId) : Box ((w.alloc (.cells c1 t1)).alloc (.cells c2 t2)) w.heap.size t1 c1 ∧ Box ((w.alloc (.cells c1 t1)).alloc (.cells c2 t2)) (w.heap.size + 1) t2 c2 ∧ Below w.heap.size w ((w.alloc (.cells c1 t1)).alloc (.cells c2 t2)) :=
  ⟨(Box.new w t1 c1).over _, box_new (by simp) t2 c2, ((Below.refl _ w).alloc (Nat.le_refl _) _).alloc (by simp) _⟩
abbrev zWay : Array Value := #[.int .i64 0, .string ⟨#[]⟩, .string ⟨#[]⟩, .int .i64 0, .slice none 0 0, .slice none 0 0, .int .i64 0]

/-- What a way that lies in memory is. -/
structure WayAt (w : World) (v : Value) (W : Wy) : Prop where
  is : ∃ a c la lc, v = .agg (wayC W.act W.bv W.t.1 a (lenF W.t.2) c la W.ls.length lc W.sym) ∧ TmAt w W.t.1 a c W.t.2 ∧ (W.ls = [] → la = none ∧ lc = 0)
theorem zT_at (w : World) : TmAt w (noS, 0) none 0 .nil := ⟨⟨by decide, by simp [lenF], by simp, by simp [lenF]⟩, .inl rfl⟩

set_option maxRecDepth 100000 in
set_option maxHeartbeats 2000000 in
theorem ofVar_any (nm : ByteArray) (t : Tn) (a : Option Addr) (c : Nat) (w0 w : World) (hT0 : TmAt w0 t.1 a c t.2) (hw : Below w0.heap.size w0 w) (hM : nodesF t.2 ≤ 1048576) :
    Calls Try.prog 41 #[.string nm, .agg #[.string t.1.1, .int .i64 t.1.2, .slice a (lenF t.2) c]] w fun e w' => (∃ v, e = .returned v ∧ WayAt w0 v (ofVarP nm t)) ∧ Below w.heap.size w w' := by
  have hT := hT0.below hw
  obtain ⟨⟨xn, xs⟩, l⟩ := t
  obtain ⟨b1, b2, hb0⟩ := two_new w #[.string xn, .int .i64 xs, .slice a (lenF l) c] 26 zWay 36
  have HT := hid hT0
  have HC := hid fun (W : World) (hW : Below w.heap.size w W) => has_any (xn, xs) l a c nm W (hT.below hW) (by dsimp only at hM; omega)
  have HS := hid fun (W : World) => setTo_any nm (xn, xs) a (lenF l) c W
  obtain ⟨hv, hhv⟩ : ∃ hv, hasT nm (xn, xs) l = hv := ⟨_, rfl⟩
  unfold ofVarP
  dsimp only at *
  rw [hhv] at HC ⊢
  have HX := hid b1; have HY := hid b2; have HB0 := hid hb0
  clear hT hT0 hw b1 b2 hb0 hhv
  cases hv
  · go_enter Try.func41, Try.ntmps41
    go_wp2_with (first
      | (go_at_call 64; refine (HC.out _ HB0.out).mono ?_; rintro e w1 ⟨rfl, hb1⟩; have HB1 := hid (HB0.out.trans (hb1.mono HB0.out.size)); have X1 := HX.out.below hb1; have Y1 := HY.out.below hb1; have HY1 := hid Y1; have z0 := X1.c 0; have z1 := X1.c 1; have z2 := X1.c 2; clear hb1 X1 Y1)
      | (go_at_call 63; refine (HS.out _).mono ?_; rintro e w2 ⟨rfl, hb2⟩; have HB2 := hid (HB1.out.trans (hb2.mono HB1.out.size)); have Y2 := HY1.out.below hb2; have HY2 := hid Y2; have r0 := Y2.c 0; have r1 := Y2.c 1; have r2 := Y2.c 2; have r3 := Y2.c 3; have r4 := Y2.c 4; have r5 := Y2.c 5; have r6 := Y2.c 6; have g0 := Y2.f 0; have g1 := Y2.f 1; have g2 := Y2.f 2; have g3 := Y2.f 3; have g4 := Y2.f 4; have g5 := Y2.f 5; have g6 := Y2.f 6; clear hb2 Y2; unfold wayC))
    refine bodyPost_ret (results_cell_row rfl _ _ (w.heap.size + 1) 36 (wayC 3 nm (xn, xs) a (lenF l) c none 0 0 0) (0, 0) _ rfl (box7_all HY2.out _ _ _ _ _ _ _) Try.underlying36 rfl Try.size36) rfl ?_
    have hB := sets7_below (B := w.heap.size + 1) HB2.out (by omega) (.int .i64 3) (.string nm) (.string xn) (.int .i64 xs) (.slice a (lenF l) c) (.slice none 0 0) (.int .i64 0)
    exact ⟨⟨_, rfl, ⟨a, c, none, 0, rfl, HT.out, fun _ => ⟨rfl, rfl⟩⟩⟩, hB⟩
  · go_enter Try.func41, Try.ntmps41
    go_wp2_with (first
      | (go_at_call 64; refine (HC.out _ HB0.out).mono ?_; rintro e w1 ⟨rfl, hb1⟩; have HB1 := hid (HB0.out.trans (hb1.mono HB0.out.size)); have Y1 := HY.out.below hb1; have HY1 := hid Y1; have r0 := Y1.c 0; have r1 := Y1.c 1; have r2 := Y1.c 2; have r3 := Y1.c 3; have r4 := Y1.c 4; have r5 := Y1.c 5; have r6 := Y1.c 6; have g0 := Y1.f 0; have g1 := Y1.f 1; have g2 := Y1.f 2; have g3 := Y1.f 3; have g4 := Y1.f 4; have g5 := Y1.f 5; have g6 := Y1.f 6; clear hb1 Y1))
    refine bodyPost_ret (results_cell_row rfl _ _ (w.heap.size + 1) 36 (wayC 2 noS (noS, 0) none 0 0 none 0 0 0) (0, 0) _ rfl (box7_all HY1.out _ _ _ _ _ _ _) Try.underlying36 rfl Try.size36) rfl ?_
    have hB := sets7_below (B := w.heap.size + 1) HB1.out (by omega) (.int .i64 2) (.string noS) (.string noS) (.int .i64 0) (.slice none 0 0) (.slice none 0 0) (.int .i64 0)
    exact ⟨⟨_, rfl, ⟨none, 0, none, 0, rfl, zT_at _, fun _ => ⟨rfl, rfl⟩⟩⟩, hB⟩
end Go.Proofs.Ytfnfbljijkjkjaa
/- Same, ofVars, isFree, sideBySide of the program; rows of equations. -/
namespace Go.Proofs.Ytfnfbljijkjkjaa
open Go.RowKit Go.Deep

set_option maxRecDepth 100000 in
set_option maxHeartbeats 2000000 in
theorem tsame_any (x y : ByteArray × Int) (l m : Fo) (a b : Option Addr) (c d : Nat) (w : World) (hS : TmAt w x a c l) (hT : TmAt w y b d m) :
    Calls Try.prog 19 #[.agg #[.string x.1, .int .i64 x.2, .slice a (lenF l) c], .agg #[.string y.1, .int .i64 y.2, .slice b (lenF m) d]] w fun e w' => e = .returned (.bool (cmpN (x, l) (y, m) == 0)) ∧ Below w.heap.size w w' := by
  have PA := hid (Pair.new w x a (lenF l) c y b (lenF m) d)
  have HC := hid (compare_all (nodesF l) x y a b c d l m _ (Nat.le_refl _) (hS.below PA.out.low) (hT.below PA.out.low))
  have t0 := PA.out.l.c0; have t1 := PA.out.l.c1; have t2 := PA.out.l.c2
  have r0 := PA.out.r.c0; have r1 := PA.out.r.c1; have r2 := PA.out.r.c2
  obtain ⟨cv, hcv⟩ : ∃ cv, cmp1 x y (lenF l) (lenF m) (cmpF l m) = cv := ⟨_, rfl⟩
  have hcv' : cmpN (x, l) (y, m) = cv := hcv
  rw [hcv] at HC
  rw [hcv']
  clear hS hT hcv hcv'
  go_enter Try.func19, Try.ntmps19
  go_wp2_with fail
  refine HC.out.mono ?_
  rintro e w1 ⟨rfl, hg1⟩
  have HL := hid (PA.out.low.trans (hg1.below.mono PA.out.low.size))
  clear hg1 HC
  go_wp2_with fail
  go_ret
  exact ⟨rfl, HL.out⟩

/-- Three boxes. -/
theorem three_new (w : World) (c1 : Array Value) (t1 : TypeId) (c2 : Array Value) (t2 : TypeId) (c3 : Array Value) (t3 : TypeId) :
    Box (((w.alloc (.cells c1 t1)).alloc (.cells c2 t2)).alloc (.cells c3 t3)) w.heap.size t1 c1 ∧ Box (((w.alloc (.cells c1 t1)).alloc (.cells c2 t2)).alloc (.cells c3 t3)) (w.heap.size + 1) t2 c2 ∧ Box (((w.alloc (.cells c1 t1)).alloc (.cells c2 t2)).alloc (.cells c3 t3)) (w.heap.size + 1 + 1) t3 c3 ∧ Below w.heap.size w (((w.alloc (.cells c1 t1)).alloc (.cells c2 t2)).alloc (.cells c3 t3)) := by
  obtain ⟨h1, h2, h3⟩ := two_new w c1 t1 c2 t2
  exact ⟨h1.over _, h2.over _, box_new (by simp) t3 c3, h3.alloc (by simp; omega) _⟩

set_option maxRecDepth 100000 in
set_option maxHeartbeats 2000000 in
theorem ofVars_any (s t : Tn) (a b : Option Addr) (c d : Nat) (w0 w : World) (hS0 : TmAt w0 s.1 a c s.2) (hT0 : TmAt w0 t.1 b d t.2) (hw : Below w0.heap.size w0 w) :
    Calls Try.prog 40 #[.agg #[.string s.1.1, .int .i64 s.1.2, .slice a (lenF s.2) c], .agg #[.string t.1.1, .int .i64 t.1.2, .slice b (lenF t.2) d]] w fun e w' => (∃ v, e = .returned v ∧ WayAt w0 v (ofVarsP s t)) ∧ Below w.heap.size w w' := by
  have hS := hS0.below hw
  have hT := hT0.below hw
  obtain ⟨⟨xn, xs⟩, l⟩ := s
  obtain ⟨⟨yn, ys⟩, m⟩ := t
  obtain ⟨b1, b2, b3, hb0⟩ := three_new w #[.string xn, .int .i64 xs, .slice a (lenF l) c] 26 #[.string yn, .int .i64 ys, .slice b (lenF m) d] 26 zWay 36
  have HS := hid hS0; have HT := hid hT0
  have HC := hid fun (W : World) (hW : Below w.heap.size w W) => compare_all (nodesF l) (xn, xs) (yn, ys) a b c d l m W (Nat.le_refl _) (hS.below hW) (hT.below hW)
  obtain ⟨cv, hcv⟩ : ∃ cv, cmp1 (xn, xs) (yn, ys) (lenF l) (lenF m) (cmpF l m) = cv := ⟨_, rfl⟩
  have hcv' : cmpN ((xn, xs), l) ((yn, ys), m) = cv := hcv
  have HA := hid fun (W : World) => setTo_any xn (yn, ys) b (lenF m) d W
  have HD := hid fun (W : World) => setTo_any yn (xn, xs) a (lenF l) c W
  unfold ofVarsP
  rw [hcv']
  rw [hcv] at HC
  have HX := hid b1; have HY := hid b2; have HZ := hid b3; have HB0 := hid hb0
  clear hS hT hS0 hT0 hw b1 b2 b3 hb0 hcv hcv'
  dsimp only at *
  by_cases h0 : cv = 0
  · subst h0
    rw [if_pos rfl]
    go_enter Try.func40, Try.ntmps40
    go_wp2_with (first
      | (go_at_call 38; refine (HC.out _ HB0.out).mono ?_; rintro e w1 ⟨rfl, hg1⟩; have hb1 := hg1.below; have HB1 := hid (HB0.out.trans (hb1.mono HB0.out.size)); have Y1 := HZ.out.below hb1; have HY1 := hid Y1; have r0 := Y1.c 0; have r1 := Y1.c 1; have r2 := Y1.c 2; have r3 := Y1.c 3; have r4 := Y1.c 4; have r5 := Y1.c 5; have r6 := Y1.c 6; have g0 := Y1.f 0; have g1 := Y1.f 1; have g2 := Y1.f 2; have g3 := Y1.f 3; have g4 := Y1.f 4; have g5 := Y1.f 5; have g6 := Y1.f 6; clear hb1 Y1 hg1))
    refine bodyPost_ret (results_cell_row rfl _ _ (w.heap.size + 1 + 1) 36 (wayC 1 noS (noS, 0) none 0 0 none 0 0 0) (0, 0) _ rfl (box7_all HY1.out _ _ _ _ _ _ _) Try.underlying36 rfl Try.size36) rfl ?_
    have hB := sets7_below (B := w.heap.size + 1 + 1) HB1.out (by omega) (.int .i64 1) (.string noS) (.string noS) (.int .i64 0) (.slice none 0 0) (.slice none 0 0) (.int .i64 0)
    exact ⟨⟨_, rfl, ⟨none, 0, none, 0, rfl, zT_at _, fun _ => ⟨rfl, rfl⟩⟩⟩, hB⟩
  · rw [if_neg h0]
    have h0' : (cv == 0) = false := by simp [h0]
    by_cases h1 : cv = 1
    · subst h1
      rw [if_pos rfl]
      go_enter Try.func40, Try.ntmps40
      go_wp2_with (first
        | (go_at_call 38; refine (HC.out _ HB0.out).mono ?_; rintro e w1 ⟨rfl, hg1⟩; have hb1 := hg1.below; have HB1 := hid (HB0.out.trans (hb1.mono HB0.out.size)); have X1 := HX.out.below hb1; have Z1 := HY.out.below hb1; have HY1 := hid (HZ.out.below hb1); have z0 := X1.c 0; have z1 := X1.c 1; have z2 := X1.c 2; have q0 := Z1.c 0; have q1 := Z1.c 1; have q2 := Z1.c 2; clear hb1 X1 Z1 hg1)
        | (go_at_call 63; refine (HA.out _).mono ?_; rintro e w2 ⟨rfl, hb2⟩; have HB2 := hid (HB1.out.trans (hb2.mono HB1.out.size)); have Y2 := HY1.out.below hb2; have HY2 := hid Y2; have r0 := Y2.c 0; have r1 := Y2.c 1; have r2 := Y2.c 2; have r3 := Y2.c 3; have r4 := Y2.c 4; have r5 := Y2.c 5; have r6 := Y2.c 6; have g0 := Y2.f 0; have g1 := Y2.f 1; have g2 := Y2.f 2; have g3 := Y2.f 3; have g4 := Y2.f 4; have g5 := Y2.f 5; have g6 := Y2.f 6; clear hb2 Y2; unfold wayC))
      refine bodyPost_ret (results_cell_row rfl _ _ (w.heap.size + 1 + 1) 36 (wayC 3 xn (yn, ys) b (lenF m) d none 0 0 0) (0, 0) _ rfl (box7_all HY2.out _ _ _ _ _ _ _) Try.underlying36 rfl Try.size36) rfl ?_
      have hB := sets7_below (B := w.heap.size + 1 + 1) HB2.out (by omega) (.int .i64 3) (.string xn) (.string yn) (.int .i64 ys) (.slice b (lenF m) d) (.slice none 0 0) (.int .i64 0)
      exact ⟨⟨_, rfl, ⟨b, d, none, 0, rfl, HT.out, fun _ => ⟨rfl, rfl⟩⟩⟩, hB⟩
    · rw [if_neg h1]
      have h1' : (cv == 1) = false := by simp [h1]
      go_enter Try.func40, Try.ntmps40
      go_wp2_with (first
        | (go_at_call 38; refine (HC.out _ HB0.out).mono ?_; rintro e w1 ⟨rfl, hg1⟩; have hb1 := hg1.below; have HB1 := hid (HB0.out.trans (hb1.mono HB0.out.size)); have X1 := HX.out.below hb1; have Z1 := HY.out.below hb1; have HY1 := hid (HZ.out.below hb1); have z0 := X1.c 0; have z1 := X1.c 1; have z2 := X1.c 2; have q0 := Z1.c 0; have q1 := Z1.c 1; have q2 := Z1.c 2; clear hb1 X1 Z1 hg1)
        | (go_at_call 63; refine (HD.out _).mono ?_; rintro e w2 ⟨rfl, hb2⟩; have HB2 := hid (HB1.out.trans (hb2.mono HB1.out.size)); have Y2 := HY1.out.below hb2; have HY2 := hid Y2; have r0 := Y2.c 0; have r1 := Y2.c 1; have r2 := Y2.c 2; have r3 := Y2.c 3; have r4 := Y2.c 4; have r5 := Y2.c 5; have r6 := Y2.c 6; have g0 := Y2.f 0; have g1 := Y2.f 1; have g2 := Y2.f 2; have g3 := Y2.f 3; have g4 := Y2.f 4; have g5 := Y2.f 5; have g6 := Y2.f 6; clear hb2 Y2; unfold wayC))
      refine bodyPost_ret (results_cell_row rfl _ _ (w.heap.size + 1 + 1) 36 (wayC 3 yn (xn, xs) a (lenF l) c none 0 0 0) (0, 0) _ rfl (box7_all HY2.out _ _ _ _ _ _ _) Try.underlying36 rfl Try.size36) rfl ?_
      have hB := sets7_below (B := w.heap.size + 1 + 1) HB2.out (by omega) (.int .i64 3) (.string yn) (.string xn) (.int .i64 xs) (.slice a (lenF l) c) (.slice none 0 0) (.int .i64 0)
      exact ⟨⟨_, rfl, ⟨a, c, none, 0, rfl, HS.out, fun _ => ⟨rfl, rfl⟩⟩⟩, hB⟩

set_option maxRecDepth 100000 in
set_option maxHeartbeats 2000000 in
theorem isFree_any (S : Option Addr) (n cap : Nat) (l : List Sym) (i : Int) (w : World) (hS : SigAt w S n l) :
    Calls Try.prog 42 #[.slice S n cap, .int .i64 i] w fun e w' => e = .returned (.bool (freeB l i)) ∧ w' = w := by
  have hlen := hS.len
  unfold freeB
  by_cases h0 : 0 ≤ i
  · have d0 : decide (0 ≤ i) = true := decide_eq_true h0
    by_cases h1 : i < n
    · have hi : i.toNat < l.length := by omega
      obtain ⟨b, off, rfl, hy⟩ := hS.cells i.toNat hi
      have c1 := hy.kind
      have hk : kindAt l i = l[i.toNat].kind := by unfold kindAt; rw [List.getElem?_eq_getElem hi]
      rw [hk, d0, decide_eq_true (show i < (l.length : Int) by omega)]
      obtain ⟨k, hkk⟩ : ∃ k, l[i.toNat].kind = k := ⟨_, rfl⟩
      rw [hkk] at c1 ⊢
      obtain ⟨j, rfl⟩ : ∃ j : Nat, i = j := ⟨i.toNat, by omega⟩
      simp only [Int.toNat_natCast] at c1
      clear hS hkk hk hy
      go_enter Try.func42, Try.ntmps42
      go_wp2
      go_ret
      exact ⟨rfl, rfl⟩
    · rw [d0, decide_eq_false (show ¬ i < (l.length : Int) by omega)]
      clear hS
      go_enter Try.func42, Try.ntmps42
      go_wp2
      go_ret
      exact ⟨rfl, rfl⟩
  · rw [decide_eq_false h0]
    clear hS
    go_enter Try.func42, Try.ntmps42
    go_wp2
    go_ret
    exact ⟨rfl, rfl⟩
end Go.Proofs.Ytfnfbljijkjkjaa
/- Rows of equations in memory; sideBySide of the program. -/
namespace Go.Proofs.Ytfnfbljijkjkjaa
open Go.RowKit Go.Deep

def flatL (ls : List (Tn × Tn)) : List Tn := ls.flatMap fun p => [p.1, p.2]
theorem flat_len (ls : List (Tn × Tn)) : (flatL ls).length = 2 * ls.length := by
  induction ls with
  | nil => rfl
  | cons p r ih => simp only [flatL, List.flatMap_cons, List.length_append, List.length_cons, List.length_nil] at ih ⊢; omega
theorem flat_snoc (ls : List (Tn × Tn)) (p : Tn × Tn) : flatL (ls ++ [p]) = flatL ls ++ [p.1, p.2] := by simp [flatL]
/-- n equations' cells lie in block g; of the first ones the terms are these, side by side. -/
def EqRow (w : World) (g n : Nat) (ks : List Kv) : Prop := ∃ cur, w.heap[g]? = some (Obj.cells cur 28 (0, 0)) ∧ cur.size = n * 6 ∧ ∀ (i : Nat) (u : Value), (kvCells ks)[i]? = some u → cur[i]? = some u
theorem EqRow.lt {w : World} {g n : Nat} {ks : List Kv} (h : EqRow w g n ks) : g < w.heap.size := by
  obtain ⟨cur, h1, _⟩ := h; exact (Array.getElem?_eq_some_iff.1 h1).1
theorem EqRow.keep {w w' : World} {g n : Nat} {ks : List Kv} (h : EqRow w g n ks) (hb : w'.heap[g]? = w.heap[g]?) : EqRow w' g n ks := by
  obtain ⟨cur, h1, h2⟩ := h; exact ⟨cur, hb.trans h1, h2⟩
theorem Box.drew {W : World} {B : Nat} {T : TypeId} {cs : Array Value} (h : Box W B T cs) : Box W.drew B T cs := h
theorem EqRow.drew {w : World} {g n : Nat} {ks : List Kv} (h : EqRow w g n ks) : EqRow w.drew g n ks := h
theorem EqRow.below {w w' : World} {g n : Nat} {ks : List Kv} (h : EqRow w g n ks) (hb : Below w.heap.size w w') : EqRow w' g n ks := h.keep (hb.block g h.lt)
theorem EqRow.cell {w : World} {g n : Nat} {ks : List Kv} (h : EqRow w g n ks) {i : Nat} (hi : i < n * 6) : ∃ v, w.cell? ⟨g, i, none⟩ = some v := by
  obtain ⟨cur, h1, h2, _⟩ := h
  exact ⟨cur[i]'(by omega), by rw [cell_of_row w g i cur 28 (0, 0) h1]; simp [show i < cur.size by omega]⟩
theorem EqRow.frozen {w : World} {g n : Nat} {ks : List Kv} (h : EqRow w g n ks) (i : Nat) : w.frozen? ⟨g, i, none⟩ = false := by
  obtain ⟨cur, h1, _⟩ := h
  simp [World.frozen?, h1]
theorem EqRow.at {w : World} {g n : Nat} {ks : List Kv} (h : EqRow w g n ks) {i : Nat} {u : Value} (hu : (kvCells ks)[i]? = some u) : w.cell? ⟨g, i, none⟩ = some u := by
  obtain ⟨cur, h1, _, h3⟩ := h
  rw [cell_of_row w g i cur 28 (0, 0) h1]; exact h3 i u hu
theorem kv_at : ∀ (ks : List Kv) (i : Nat) (h : i < ks.length), (kvCells ks)[i * 3]? = some (.string ks[i].x.1) ∧ (kvCells ks)[i * 3 + 1]? = some (.int .i64 ks[i].x.2) ∧ (kvCells ks)[i * 3 + 2]? = some (.slice ks[i].a (lenF ks[i].l) ks[i].c)
  | [], i, h => absurd h (by simp)
  | k :: r, 0, _ => ⟨rfl, rfl, rfl⟩
  | k :: r, i + 1, h => by
    have ih := kv_at r i (by simpa using h)
    have e : kvCells (k :: r) = .string k.x.1 :: .int .i64 k.x.2 :: .slice k.a (lenF k.l) k.c :: kvCells r := rfl
    rw [e, show (i + 1) * 3 = i * 3 + 1 + 1 + 1 by omega, show i * 3 + 1 + 1 + 1 + 1 = (i * 3 + 1) + 1 + 1 + 1 by omega, show i * 3 + 1 + 1 + 1 + 2 = (i * 3 + 2) + 1 + 1 + 1 by omega]
    simp only [List.getElem?_cons_succ, List.getElem_cons_succ]
    exact ih
/-- Six cells stored. -/
def set6 (W : World) (g o : Nat) (k1 k2 : Kv) : World := (((((W.setCell ⟨g, o, none⟩ (.string k1.x.1)).setCell ⟨g, o + 1, none⟩ (.int .i64 k1.x.2)).setCell ⟨g, o + 2, none⟩ (.slice k1.a (lenF k1.l) k1.c)).setCell ⟨g, o + 3, none⟩ (.string k2.x.1)).setCell ⟨g, o + 4, none⟩ (.int .i64 k2.x.2)).setCell ⟨g, o + 5, none⟩ (.slice k2.a (lenF k2.l) k2.c)
theorem set6_far {W : World} {g q : Nat} (h : q ≠ g) (o : Nat) (k1 k2 : Kv) : (set6 W g o k1 k2).heap[q]? = W.heap[q]? :=
  (((((Below.heap_setCell _ _ _ _ h).trans (Below.heap_setCell _ _ _ _ h)).trans (Below.heap_setCell _ _ _ _ h)).trans (Below.heap_setCell _ _ _ _ h)).trans (Below.heap_setCell _ _ _ _ h)).trans (Below.heap_setCell _ _ _ _ h)
theorem set6_size (W : World) (g o : Nat) (k1 k2 : Kv) : (set6 W g o k1 k2).heap.size = W.heap.size := by simp [set6]
theorem set6_below {n0 : Nat} {w W : World} {g : Nat} (hb : Below n0 w W) (h : n0 ≤ g) (o : Nat) (k1 k2 : Kv) : Below n0 w (set6 W g o k1 k2) :=
  (((((hb.setCell (p := ⟨g, o, none⟩) h _).setCell (p := ⟨g, o + 1, none⟩) h _).setCell (p := ⟨g, o + 2, none⟩) h _).setCell (p := ⟨g, o + 3, none⟩) h _).setCell (p := ⟨g, o + 4, none⟩) h _).setCell (p := ⟨g, o + 5, none⟩) h _
theorem set6_row {W : World} {g o : Nat} {cur : Array Value} {t : TypeId} (h : W.heap[g]? = some (Obj.cells cur t (0, 0))) (k1 k2 : Kv) : ∃ cur', (set6 W g o k1 k2).heap[g]? = some (Obj.cells cur' t (0, 0)) ∧ cur'.size = cur.size ∧
    ∀ i, cur'[i]? = if o ≤ i ∧ i < o + 6 ∧ i < cur.size then (kvCells [k1, k2])[i - o]? else cur[i]? := by
  refine ⟨_, block_set (block_set (block_set (block_set (block_set (block_set h _) _) _) _) _) _, by simp, fun i => ?_⟩
  simp only [Array.getElem?_setIfInBounds, Array.size_setIfInBounds]
  have e : kvCells [k1, k2] = [.string k1.x.1, .int .i64 k1.x.2, .slice k1.a (lenF k1.l) k1.c, .string k2.x.1, .int .i64 k2.x.2, .slice k2.a (lenF k2.l) k2.c] := rfl
  by_cases hin : o ≤ i ∧ i < o + 6 ∧ i < cur.size
  · rw [if_pos hin, e]
    have hc : i = o ∨ i = o + 1 ∨ i = o + 2 ∨ i = o + 3 ∨ i = o + 4 ∨ i = o + 5 := by omega
    rcases hc with rfl | rfl | rfl | rfl | rfl | rfl
    · rw [if_neg (by omega), if_neg (by omega), if_neg (by omega), if_neg (by omega), if_neg (by omega), if_pos rfl, if_pos (by omega)]; simp
    · rw [if_neg (by omega), if_neg (by omega), if_neg (by omega), if_neg (by omega), if_pos rfl, if_pos (by omega), show o + 1 - o = 1 by omega]; rfl
    · rw [if_neg (by omega), if_neg (by omega), if_neg (by omega), if_pos rfl, if_pos (by omega), show o + 2 - o = 2 by omega]; rfl
    · rw [if_neg (by omega), if_neg (by omega), if_pos rfl, if_pos (by omega), show o + 3 - o = 3 by omega]; rfl
    · rw [if_neg (by omega), if_pos rfl, if_pos (by omega), show o + 4 - o = 4 by omega]; rfl
    · rw [if_pos rfl, if_pos (by omega), show o + 5 - o = 5 by omega]; rfl
  · rw [if_neg hin]
    by_cases hs : i < cur.size
    · rw [if_neg (by omega), if_neg (by omega), if_neg (by omega), if_neg (by omega), if_neg (by omega), if_neg (by omega)]
    · have hn : cur[i]? = none := Array.getElem?_eq_none (by omega)
      rw [hn]
      (repeat' split) <;> first | rfl | omega
theorem kvCells_app (a b : List Kv) : kvCells (a ++ b) = kvCells a ++ kvCells b := by simp [kvCells]
/-- One more is stored behind those that are there. -/
theorem EqRow.push {w : World} {g n : Nat} {ks : List Kv} (h : EqRow w g n ks) {o : Nat} (ho : o = ks.length * 3) (hlt : o + 6 ≤ n * 6) (k1 k2 : Kv) : EqRow (set6 w g o k1 k2) g n (ks ++ [k1, k2]) := by
  subst ho
  obtain ⟨cur, h1, h2, h3⟩ := h
  obtain ⟨cur', g1, g2, g3⟩ := set6_row (o := ks.length * 3) h1 k1 k2
  refine ⟨cur', g1, by omega, fun i u hu => ?_⟩
  have hl := kvCells_len ks
  rw [kvCells_app] at hu
  rw [g3 i]
  by_cases hc : i < ks.length * 3
  · rw [List.getElem?_append_left (by omega)] at hu
    rw [if_neg (by omega)]; exact h3 i u hu
  · rw [List.getElem?_append_right (by omega), hl] at hu
    have hi : i - ks.length * 3 < 6 := by
      rcases Nat.lt_or_ge (i - ks.length * 3) 6 with h' | h'
      · exact h'
      · rw [List.getElem?_eq_none (by simp only [kvCells_len, List.length_cons, List.length_nil]; omega)] at hu; cases hu
    rw [if_pos (by omega)]; exact hu
/-- One is stored over. -/
theorem EqRow.put {w : World} {g n : Nat} {xs bs : List Kv} {j1 j2 : Kv} (h : EqRow w g n (xs ++ [j1, j2] ++ bs)) {o : Nat} (ho : o = xs.length * 3) (hlt : o + 6 ≤ n * 6) (k1 k2 : Kv) : EqRow (set6 w g o k1 k2) g n (xs ++ [k1, k2] ++ bs) := by
  subst ho
  obtain ⟨cur, h1, h2, h3⟩ := h
  obtain ⟨cur', g1, g2, g3⟩ := set6_row (o := xs.length * 3) h1 k1 k2
  refine ⟨cur', g1, by omega, fun i u hu => ?_⟩
  have hl := kvCells_len xs
  have hl2 : ∀ a b : Kv, (kvCells [a, b]).length = 6 := fun a b => by simp only [kvCells_len, List.length_cons, List.length_nil]
  rw [kvCells_app, kvCells_app] at hu
  rw [kvCells_app, kvCells_app] at h3
  rw [g3 i]
  by_cases hc : i < xs.length * 3
  · rw [if_neg (by omega)]
    refine h3 i u ?_
    rw [List.append_assoc, List.getElem?_append_left (by omega)] at hu ⊢
    exact hu
  · by_cases hd : i < xs.length * 3 + 6
    · rw [if_pos (by omega)]
      rw [List.getElem?_append_left (by rw [List.length_append, hl2]; omega), List.getElem?_append_right (by omega), hl] at hu
      exact hu
    · rw [if_neg (by omega)]
      refine h3 i u ?_
      rw [List.getElem?_append_right (by rw [List.length_append, hl2]; omega), List.length_append, hl2] at hu ⊢
      exact hu

/-- What look answers, in memory that is only lent, but for a row of its own. -/
structure LookAt (base : Nat) (w0 w : World) (v : Value) (W : Wy) : Prop where
  is : ∃ (tk : Kv) (ks : List Kv) (la : Option Addr) (lc : Nat), v = .agg (wayC W.act W.bv tk.x tk.a (lenF tk.l) tk.c la W.ls.length lc W.sym) ∧ tk.tn = W.t ∧ TmAt w0 tk.x tk.a tk.c tk.l ∧ ks.map Kv.tn = flatL W.ls ∧ (∀ k ∈ ks, TmAt w0 k.x k.a k.c k.l) ∧
    ((W.ls = [] ∧ la = none ∧ lc = 0) ∨ ∃ g, la = some ⟨g, 0, none⟩ ∧ base ≤ g ∧ lc = W.ls.length ∧ EqRow w g W.ls.length ks)
theorem WayAt.look {base : Nat} {w0 w : World} {v : Value} {W : Wy} (h : WayAt w0 v W) (hl : W.ls = []) : LookAt base w0 w v W := by
  obtain ⟨a, c, la, lc, h1, h2, h3⟩ := h.is
  exact ⟨⟨W.t.1, W.t.2, a, c⟩, [], la, lc, h1, rfl, h2, by rw [hl]; rfl, (by simp), .inl ⟨hl, h3 hl⟩⟩
theorem LookAt.keep {base : Nat} {w0 w w' : World} {v : Value} {W : Wy} (h : LookAt base w0 w v W) (hb : ∀ q, base ≤ q → q < w.heap.size → w'.heap[q]? = w.heap[q]?) : LookAt base w0 w' v W := by
  obtain ⟨tk, ks, la, lc, h1, h2, h3, h4, h5, h6⟩ := h.is
  refine ⟨tk, ks, la, lc, h1, h2, h3, h4, h5, ?_⟩
  rcases h6 with h6 | ⟨g, h7, h8, h9, h10⟩
  · exact .inl h6
  · exact .inr ⟨g, h7, h8, h9, h10.keep (hb g h8 h10.lt)⟩
theorem LookAt.mono {base base' : Nat} {w0 w : World} {v : Value} {W : Wy} (h : LookAt base w0 w v W) (hb : base' ≤ base) : LookAt base' w0 w v W := by
  obtain ⟨tk, ks, la, lc, h1, h2, h3, h4, h5, h6⟩ := h.is
  refine ⟨tk, ks, la, lc, h1, h2, h3, h4, h5, ?_⟩
  rcases h6 with h6 | ⟨g, h7, h8, h9, h10⟩
  · exact .inl h6
  · exact .inr ⟨g, h7, Nat.le_trans hb h8, h9, h10⟩

theorem ofVar_none (nm : ByteArray) (t : Tn) : (ofVarP nm t).ls = [] := by unfold ofVarP; split <;> rfl
theorem ofVars_none (s t : Tn) : (ofVarsP s t).ls = [] := by
  unfold ofVarsP
  split
  · rfl
  · split <;> rfl

theorem kid_at {w : World} {F : Fo} {b o k : Nat} {x : ByteArray × Int} {a : Option Addr} {c : Nat} {l : Fo} (h : Kid w F b o k x a c l) : (kidsL F)[k]? = some (x, l) := by
  obtain ⟨B, O, hd⟩ := h.split
  have h1 := kids_drop k F
  rw [hd, kidsL] at h1
  have := congrArg (·[0]?) h1
  simpa using this.symm
theorem zip_take {α : Type} {l m : List α} {j : Nat} {x y : α} (hx : l[j]? = some x) (hy : m[j]? = some y) : (l.zip m).take (j + 1) = (l.zip m).take j ++ [(x, y)] := by
  rw [List.take_add_one, show (l.zip m)[j]? = some (x, y) from List.getElem?_zip_eq_some.2 ⟨hx, hy⟩]; rfl

set_option maxRecDepth 100000 in
set_option maxHeartbeats 4000000 in
theorem sideBySide_any (x y : ByteArray × Int) (l m : Fo) (a b : Option Addr) (c d : Nat) (wt w : World) (hS0 : TmAt wt x a c l) (hT0 : TmAt wt y b d m) (hw : Below wt.heap.size wt w) (hM : nodesF l ≤ 1048576) :
    Calls Try.prog 43 #[.slice a (lenF l) c, .slice b (lenF m) d] w fun e w' => (∃ v, e = .returned v ∧ LookAt w.heap.size wt w' v (sideP l m)) ∧ Below w.heap.size w w' := by
  have hS := hS0.below hw
  have hT := hT0.below hw
  obtain ⟨i0, hi, hz0, hz1, hz2⟩ := info_parts Try.info28
  have HS := hid hS0; have HT := hid hT0; have HW := hid hw
  have hln := len_nodes l
  have hB0 := hid (alloc_below0 w (.cells zWay 36))
  have HZ := hid (Box.new w 36 zWay)
  have hsl := hS.sizes.len; have hsc := hS.sizes.cap; have htl := hT.sizes.len; have htc := hT.sizes.cap
  have hmax : maxLen = 9223372036854775807 := rfl
  clear hS hT hS0 hT0 hw
  unfold sideP
  by_cases hne : lenF l = lenF m
  · rw [if_pos hne]
    have hnb : ((lenF l : Int) == (lenF m : Int)) = true := by simp [hne]
    have HNE := hid hne
    clear hne
    go_enter Try.func43, Try.ntmps43
    go_wp2_with (at_make; refine wpList_make_full _ rfl _ _ 34 rfl w.heap.size 28 i0 (.agg #[.string ⟨#[]⟩, .int .i64 0, .slice none 0 0, .string ⟨#[]⟩, .int .i64 0, .slice none 0 0]) 6 Try.underlying34 hi hz0 hz1 .i64 .i64 _ _ (lenF l) rfl rfl rfl rfl (by rw [hz2]; omega) (by omega) (by simp) ?_; intro w0 hown0 hgrow0)
    have E0 : Hid (EqRow w0 (w.heap.size + 1) (lenF l) []) := by
      rcases hown0.2 with ⟨hv, _⟩ | ⟨g', cap', cur, hv, _, hh, _, _, hcs, _⟩
      · cases hv
      · cases hv
        rw [World.size_alloc] at hh
        exact ⟨cur, hh, hcs, fun i u hu => by simp [kvCells] at hu⟩
    have B0 : Hid (Below w.heap.size w w0) := hid (hB0.out.grown hgrow0 (by simp) (fun k e => by cases e))
    have Z0 : Hid (Box w0 w.heap.size 36 zWay) := hid ((hgrow0.block _ (by simp) (by simp)).trans HZ.out)
    clear hown0 hgrow0 hB0 HZ
    go_loopw [18] (fun i wr => ∃ (j : Nat) (ks : List Kv), j ≤ lenF l ∧ i = .int .i64 j ∧ ks.length = 2 * j ∧ Below w.heap.size w wr ∧ Box wr w.heap.size 36 zWay ∧ EqRow wr (w.heap.size + 1) (lenF l) ks ∧ ks.map Kv.tn = flatL (((kidsL l).zip (kidsL m)).take j) ∧ ∀ k ∈ ks, TmAt wt k.x k.a k.c k.l) (fun i _ => lenF l - (intOf i).toNat)
    case atStart => exact ⟨0, [], Nat.zero_le _, rfl, rfl, B0.out, Z0.out, E0.out, by simp [flatL], by simp⟩
    case round =>
      obtain ⟨j, ks, hj, rfl, hkl, hb, hz, he, hks, htm⟩ := hrel
      have HB := hid hb; have HZ := hid hz; have HE := hid he; have HKS := hid hks; have HTM := hid htm; have HKL := hid hkl
      clear E0 B0 Z0 hks htm hkl
      by_cases hlt : j < lenF l
      · have hlm : j < lenF m := by have := HNE.out; omega
        obtain ⟨b1, o1, rfl, hk1⟩ := HS.out.args.get (by omega)
        obtain ⟨b2, o2, rfl, hk2⟩ := HT.out.args.get (by omega)
        obtain ⟨x1, a1, c1, l1, kd0⟩ := hk1.kid (k := j) hlt
        obtain ⟨x2, a2, c2, l2, ke0⟩ := hk2.kid (k := j) hlm
        have kd := kd0.below (HW.out.trans (hb.mono HW.out.size))
        have ke := ke0.below (HW.out.trans (hb.mono HW.out.size))
        have p0 : wr.drew.cell? ⟨b1, o1 + j * 3, none⟩ = _ := kd.name
        have p1 : wr.drew.cell? ⟨b1, o1 + j * 3 + 1, none⟩ = _ := kd.sym
        have p2 : wr.drew.cell? ⟨b1, o1 + j * 3 + 2, none⟩ = _ := kd.list
        have q0 : wr.drew.cell? ⟨b2, o2 + j * 3, none⟩ = _ := ke.name
        have q1 : wr.drew.cell? ⟨b2, o2 + j * 3 + 1, none⟩ = _ := ke.sym
        have q2 : wr.drew.cell? ⟨b2, o2 + j * 3 + 2, none⟩ = _ := ke.list
        obtain ⟨u0, v0⟩ := he.cell (i := j * 6) (by omega)
        obtain ⟨u1, v1⟩ := he.cell (i := j * 6 + 1) (by omega)
        obtain ⟨u2, v2⟩ := he.cell (i := j * 6 + 2) (by omega)
        obtain ⟨u3, v3⟩ := he.cell (i := j * 6 + 3) (by omega)
        obtain ⟨u4, v4⟩ := he.cell (i := j * 6 + 4) (by omega)
        obtain ⟨u5, v5⟩ := he.cell (i := j * 6 + 5) (by omega)
        have w0 : wr.drew.cell? ⟨w.heap.size + 1, j * 6, none⟩ = _ := v0
        have w1 : wr.drew.cell? ⟨w.heap.size + 1, j * 6 + 1, none⟩ = _ := v1
        have w2 : wr.drew.cell? ⟨w.heap.size + 1, j * 6 + 2, none⟩ = _ := v2
        have w3 : wr.drew.cell? ⟨w.heap.size + 1, j * 6 + 3, none⟩ = _ := v3
        have w4 : wr.drew.cell? ⟨w.heap.size + 1, j * 6 + 4, none⟩ = _ := v4
        have w5 : wr.drew.cell? ⟨w.heap.size + 1, j * 6 + 5, none⟩ = _ := v5
        have f0 : wr.drew.frozen? ⟨w.heap.size + 1, j * 6, none⟩ = false := he.frozen _
        have f1 : wr.drew.frozen? ⟨w.heap.size + 1, j * 6 + 1, none⟩ = false := he.frozen _
        have f2 : wr.drew.frozen? ⟨w.heap.size + 1, j * 6 + 2, none⟩ = false := he.frozen _
        have f3 : wr.drew.frozen? ⟨w.heap.size + 1, j * 6 + 3, none⟩ = false := he.frozen _
        have f4 : wr.drew.frozen? ⟨w.heap.size + 1, j * 6 + 4, none⟩ = false := he.frozen _
        have f5 : wr.drew.frozen? ⟨w.heap.size + 1, j * 6 + 5, none⟩ = false := he.frozen _
        have hk0 : (0 : Int) ≤ (j : Int) := by omega
        have hkn : (j : Int) < (lenF l : Int) := by omega
        have hkm : (j : Int) < (lenF m : Int) := by omega
        have e0 : wr.frozen? ⟨w.heap.size + 1, j * 6, none⟩ = false := he.frozen _
        have e1 : wr.frozen? ⟨w.heap.size + 1, j * 6 + 1, none⟩ = false := he.frozen _
        have e2 : wr.frozen? ⟨w.heap.size + 1, j * 6 + 2, none⟩ = false := he.frozen _
        have e3 : wr.frozen? ⟨w.heap.size + 1, j * 6 + 3, none⟩ = false := he.frozen _
        have e4 : wr.frozen? ⟨w.heap.size + 1, j * 6 + 4, none⟩ = false := he.frozen _
        have e5 : wr.frozen? ⟨w.heap.size + 1, j * 6 + 5, none⟩ = false := he.frozen _
        have NB : Hid (Below w.heap.size w (set6 wr (w.heap.size + 1) (j * 6) ⟨x1, l1, a1, c1⟩ ⟨x2, l2, a2, c2⟩).drew) := hid (set6_below hb (by omega) _ _ _).drew
        have nz : Box (set6 wr (w.heap.size + 1) (j * 6) ⟨x1, l1, a1, c1⟩ ⟨x2, l2, a2, c2⟩) w.heap.size 36 zWay := (set6_far (by omega) _ _ _).trans hz
        have NZ := hid nz.drew
        have NE := hid (EqRow.drew (he.push (o := j * 6) (by have := HKL.out; omega) (by omega) ⟨x1, l1, a1, c1⟩ ⟨x2, l2, a2, c2⟩))
        clear nz
        have NL : Hid ((ks ++ [(⟨x1, l1, a1, c1⟩ : Kv), ⟨x2, l2, a2, c2⟩]).length = 2 * (j + 1)) := hid (by rw [List.length_append, HKL.out]; rfl)
        have NK : Hid ((ks ++ [(⟨x1, l1, a1, c1⟩ : Kv), ⟨x2, l2, a2, c2⟩]).map Kv.tn = flatL (((kidsL l).zip (kidsL m)).take (j + 1))) := hid (by
          rw [List.map_append, HKS.out, zip_take (kid_at kd) (kid_at ke), flat_snoc]; rfl)
        have NT : Hid (∀ k ∈ ks ++ [(⟨x1, l1, a1, c1⟩ : Kv), ⟨x2, l2, a2, c2⟩], TmAt wt k.x k.a k.c k.l) := hid (fun k hk => by
          rcases List.mem_append.1 hk with hk | hk
          · exact HTM.out k hk
          · simp only [List.mem_cons, List.not_mem_nil, or_false] at hk
            rcases hk with rfl | rfl
            · exact kd0.at_
            · exact ke0.at_)
        clear hb hz he kd ke kd0 ke0 hk1 hk2
        go_upto_region 7 with fail
        go_region
        all_goals
          go_wp2_with fail
          go_roundw
          case rel =>
            exact ⟨j + 1, ks ++ [(⟨x1, l1, a1, c1⟩ : Kv), ⟨x2, l2, a2, c2⟩], by omega, by go_num, NL.out, NB.out, NZ.out, NE.out, NK.out, NT.out⟩
          case measure => simp [intOf]; omega
      · have e1 : j = lenF l := by omega
        have r0 := hz.c 0; have r1 := hz.c 1; have r2 := hz.c 2; have r3 := hz.c 3; have r4 := hz.c 4; have r5 := hz.c 5; have r6 := hz.c 6
        have g0 := hz.f 0; have g1 := hz.f 1; have g2 := hz.f 2; have g3 := hz.f 3; have g4 := hz.f 4; have g5 := hz.f 5; have g6 := hz.f 6
        have hzl : ((kidsL l).zip (kidsL m)).length = lenF l := by rw [List.length_zip, kids_len, kids_len, ← HNE.out]; simp
        have HZL := hid hzl
        have hfull : ks.map Kv.tn = flatL ((kidsL l).zip (kidsL m)) := by rw [HKS.out, List.take_of_length_le (by omega)]
        have HF := hid hfull
        have HJ := hid hlt
        have HE1 := hid e1
        clear hb hz he hzl hfull e1
        go_wp2_with fail
        refine bodyPost_ret (results_cell_row rfl _ _ w.heap.size 36 (wayC 4 noS (noS, 0) none 0 0 (some ⟨w.heap.size + 1, 0, none⟩) (lenF l) (lenF l) 0) (0, 0) _ rfl (box7_all HZ.out _ _ _ _ _ _ _) Try.underlying36 rfl Try.size36) rfl ?_
        have hB := sets7_below (B := w.heap.size) HB.out (by omega) (.int .i64 4) (.string noS) (.string noS) (.int .i64 0) (.slice none 0 0) (.slice (some ⟨w.heap.size + 1, 0, none⟩) (lenF l) (lenF l)) (.int .i64 0)
        have hE := HE.out.keep (sets7_far (W := wr) (B := w.heap.size) (q := w.heap.size + 1) (by omega) (.int .i64 4) (.string noS) (.string noS) (.int .i64 0) (.slice none 0 0) (.slice (some ⟨w.heap.size + 1, 0, none⟩) (lenF l) (lenF l)) (.int .i64 0))
        refine ⟨⟨_, rfl, ⟨⟨(noS, 0), .nil, none, 0⟩, ks, some ⟨w.heap.size + 1, 0, none⟩, lenF l, ?_, rfl, zT_at _, HF.out, HTM.out, .inr ⟨w.heap.size + 1, rfl, by omega, by rw [HZL.out], by rw [HZL.out]; exact hE⟩⟩⟩, hB⟩
        rw [HZL.out]; rfl
  · rw [if_neg hne]
    have hnb : ((lenF l : Int) == (lenF m : Int)) = false := by simp; omega
    clear hne
    go_enter Try.func43, Try.ntmps43
    go_wp2_with fail
    refine bodyPost_ret (results_cell_row rfl _ _ w.heap.size 36 (wayC 2 noS (noS, 0) none 0 0 none 0 0 0) (0, 0) _ rfl (Box.new w 36 _) Try.underlying36 rfl Try.size36) rfl ?_
    exact ⟨⟨_, rfl, WayAt.look (W := actW 2) ⟨none, 0, none, 0, rfl, zT_at _, fun _ => ⟨rfl, rfl⟩⟩ rfl⟩, alloc_below0 w _⟩
end Go.Proofs.Ytfnfbljijkjkjaa
/- How a term that came in is opened into a forest. -/
namespace Go.Proofs.Ytfnfbljijkjkjaa
open Go.ChangeShapes Go.WideShapes Go.ChangeAt Go.RowKit Go.Deep

theorem own : ownKnob Try.prog.godebug = none := by kernel_rfl
theorem laidOut : laidOutB Try.prog = true := by kernel_rfl
theorem addr_add (b off i : Nat) : (⟨b, off, none⟩ : Addr).add i = ⟨b, off + i, none⟩ := by
  unfold Addr.add
  split
  · rename_i h; subst h; rfl
  · rfl
theorem Try.cells26 : Try.prog.cellsOf 26 = 3 := by kernel_rfl
theorem Try.cells24 : Try.prog.cellsOf 24 = 1 := by kernel_rfl
theorem Try.cells9 : Try.prog.cellsOf 9 = 1 := by kernel_rfl
theorem Try.cells3 : Try.prog.cellsOf 3 = 1 := by kernel_rfl
theorem Try.bytes26 : Try.prog.bytesOf 26 = 48 := by kernel_rfl


/-- Small enough, by one of the two forms' bounds. -/
def Sz {H : Type} (d : DataW H) : Prop := (∀ m ∈ d.weights Try.prog 26, m ≤ 140737488351232) ∨ Rows.uptoBulk d ≤ 1048576
theorem weights_all {H : Type} {e : TypeId} {m : Nat} : ∀ {ds : List (DataW H)} {d : DataW H}, d ∈ ds → m ∈ d.weights Try.prog e → m ∈ DataW.weightsAll Try.prog e ds
  | d' :: r, d, hd, hm => by
    simp only [DataW.weightsAll, List.mem_append]
    rcases List.mem_cons.1 hd with rfl | h
    · exact .inl hm
    · exact .inr (weights_all h hm)
theorem bulk_all {H : Type} : ∀ {ds : List (DataW H)} {d : DataW H}, d ∈ ds → Rows.uptoBulk d ≤ Rows.uptoBulkAll ds
  | d' :: r, d, hd => by
    simp only [Rows.uptoBulkAll]
    rcases List.mem_cons.1 hd with rfl | h
    · omega
    · have := bulk_all h; omega
theorem bulk_pos {H : Type} (d : DataW H) : 1 ≤ Rows.uptoBulk d := by
  cases d with
  | lit l => cases l <;> simp [Rows.uptoBulk]
  | _ => simp [Rows.uptoBulk]
theorem bulk_len {H : Type} : ∀ ds : List (DataW H), ds.length ≤ Rows.uptoBulkAll ds
  | [] => Nat.le_refl _
  | d :: r => by
    have := bulk_len r
    have := bulk_pos d
    simp only [Rows.uptoBulkAll, List.length_cons]; omega

/-- Terms side by side make a forest. -/
theorem forest_of {H : Type} {W : World} {b : Nat} : ∀ (ds : List (DataW H × List MemPlace)) (o : Nat),
    (∀ (i : Nat) (h : i < ds.length), ∃ (p : ByteArray × Int) (a : Option Addr) (c : Nat) (l : Fo), (W.cell? ⟨b, o + i * 3, none⟩ = some (.string p.1) ∧ W.cell? ⟨b, o + i * 3 + 1, none⟩ = some (.int .i64 p.2) ∧ W.cell? ⟨b, o + i * 3 + 2, none⟩ = some (.slice a (lenF l) c)) ∧ TmAt W p a c l ∧ nodesF l + 1 ≤ Rows.uptoBulk ds[i].1) →
    ∃ F : Fo, lenF F = ds.length ∧ KidsAt W F b o ∧ nodesF F ≤ Rows.uptoBulkAll (ds.map (·.1))
  | [], o, _ => ⟨.nil, rfl, trivial, Nat.zero_le _⟩
  | d :: r, o, h => by
    obtain ⟨F, hl, hk, hn⟩ := forest_of r (o + 3) (fun i hi => by
      obtain ⟨p, a, c, l, ⟨h0, h1, h2⟩, h3, h4⟩ := h (i + 1) (by simpa using hi)
      rw [show o + (i + 1) * 3 = o + 3 + i * 3 by omega] at h0 h1 h2
      exact ⟨p, a, c, l, ⟨h0, h1, h2⟩, h3, h4⟩)
    obtain ⟨p, a, c, l, ⟨h0, h1, h2⟩, h3, h4⟩ := h 0 (by simp)
    simp only [Nat.zero_mul, Nat.add_zero, List.getElem_cons_zero] at h0 h1 h2 h4
    refine ⟨.node 0 0 p l F, by simp [lenF, hl], ⟨⟨a, c, h0, h1, h2, h3.sizes, h3.args⟩, hk⟩, ?_⟩
    simp only [nodesF, List.map_cons, Rows.uptoBulkAll]
    omega

set_option maxRecDepth 100000 in
theorem term_open {H : Type} {enc : TypeId × Value → H} {W : World} : ∀ (fuel : Nat) (cs : List Value) (x : DataW H × List MemPlace), DataW.trod enc Try.prog W 0 (fun _ => true) true fuel 26 cs = some x → Sz x.1 →
    ∃ (p : ByteArray × Int) (a : Option Addr) (c : Nat) (l : Fo), cs = [.string p.1, .int .i64 p.2, .slice a (lenF l) c] ∧ TmAt W p a c l ∧ nodesF l + 1 ≤ Rows.uptoBulk x.1 := by
  intro fuel
  induction fuel using Nat.strongRecOn with
  | _ fuel ih =>
    intro cs x h hz
    obtain ⟨xs, n, hfuel, hx, hl, hlen, hf⟩ := DataW.trod_struct Try.underlying26 h
    rw [Try.cells26] at hl
    match xs, hlen, cs, hl with
    | [y0, y1, y2], _, [v0, v1, v2], _ =>
      have g0 := hf 0 _ rfl
      have g1 := hf 1 _ rfl
      have g2 := hf 2 _ rfl
      simp [Try.cells9, Try.cells3, Try.cells24] at g0 g1 g2
      obtain ⟨s0, e0, k0, f0⟩ := DataW.trod_string Try.underlying9 g0
      obtain ⟨n1, e1, k1, _⟩ := DataW.trod_int Try.underlying3 g1
      simp at e0 e1
      subst e0 e1 hx
      rcases DataW.trod_slice Try.underlying24 g2 with ⟨hcs, h2⟩ | ⟨ad, len, c, elems, rest, n', hn', hcs, h2, _, hlc, hcm, hlen2, hel, _, _⟩
      · simp at hcs
        subst hcs
        exact ⟨(s0, n1), none, 0, .nil, rfl, ⟨⟨f0, by simp [lenF], by simp, by simp [lenF]⟩, .inl rfl⟩, by simp [nodesF, Rows.uptoBulk, Rows.uptoBulkAll]⟩
      · simp at hcs
        subst hcs
        rw [Try.cells26] at hel
        have hb2 : Rows.uptoBulkAll (elems.map (·.1)) + 1 ≤ Rows.uptoBulk (DataW.agg (List.map (·.1) [y0, y1, y2])) := by
          simp only [List.map_cons, List.map_nil, Rows.uptoBulk, Rows.uptoBulkAll, h2]; omega
        have hsub : ∀ d ∈ elems, Sz d.1 := by
          intro d hd
          rcases hz with hz | hz
          · refine .inl fun m hm => hz m ?_
            have : m ∈ DataW.weightsAll Try.prog 26 (elems.map (·.1)) := weights_all (List.mem_map_of_mem hd) hm
            simp [DataW.weights, Try.underlying26, DataW.weightsEach, h2, Try.underlying24, this]
          · refine .inr ?_
            have := bulk_all (List.mem_map_of_mem (f := (·.1)) hd)
            simp only at hz
            omega
        have hfew : len * 48 ≤ 140737488351232 := by
          rcases hz with hz | hz
          · have := hz ((elems.length + rest.length) * 48) (by simp [DataW.weights, Try.underlying26, DataW.weightsEach, h2, Try.underlying24, Try.bytes26])
            rw [hlen2] at this
            omega
          · have := bulk_len (elems.map (·.1))
            rw [List.length_map, hlen2] at this
            simp only at hz
            omega
        have each : ∀ i (hi : i < elems.length), ∃ (p : ByteArray × Int) (a : Option Addr) (c : Nat) (l : Fo), W.cells? 0 (ad.add (i * 3)) 3 = some [.string p.1, .int .i64 p.2, .slice a (lenF l) c] ∧ TmAt W p a c l ∧ nodesF l + 1 ≤ Rows.uptoBulk elems[i].1 := by
          intro i hi
          have h1 := hel i (by omega)
          rw [List.getElem?_eq_getElem hi] at h1
          cases hc : W.cells? 0 (ad.add (i * 3)) 3 with
          | none => rw [hc] at h1; cases h1
          | some cs' =>
            rw [hc] at h1
            obtain ⟨p, a, c, l, rfl, h3, h4⟩ := ih n' (by omega) cs' elems[i] h1 (hsub _ (List.getElem_mem hi))
            exact ⟨p, a, c, l, rfl, h3, h4⟩
        by_cases hz0 : len = 0
        · subst hz0
          exact ⟨(s0, n1), some ad, c, .nil, rfl, ⟨⟨f0, by simp [lenF], hcm, by simp [lenF]⟩, .inl rfl⟩, by simp only [nodesF]; omega⟩
        · obtain ⟨b, off, spot⟩ := ad
          have hspot : spot = none := by
            obtain ⟨p, a, c, l, h3, _⟩ := each 0 (by omega)
            obtain ⟨_, _, h30⟩ := World.cells?_some h3
            have := h30 0 (by omega)
            simpa [Addr.add] using World.cell?_spot this
          subst hspot
          obtain ⟨F, hFl, hFk, hFn⟩ := forest_of (W := W) (b := b) elems off (fun i hi => by
            obtain ⟨p, a, c, l, h3, h4, h5⟩ := each i hi
            rw [addr_add] at h3
            obtain ⟨_, _, h30⟩ := World.cells?_some h3
            have q0 := h30 0 (by omega)
            have q1 := h30 1 (by omega)
            have q2 := h30 2 (by omega)
            rw [addr_add] at q0 q1 q2
            exact ⟨p, a, c, l, ⟨q0, q1, q2⟩, h4, h5⟩)
          have hFl' : lenF F = len := by rw [hFl, hlen2]
          exact ⟨(s0, n1), some ⟨b, off, none⟩, c, F, by rw [hFl'], ⟨⟨f0, by omega, hcm, by rw [hFl']; exact hfew⟩, .inr ⟨b, off, rfl, hFk⟩⟩, Nat.le_trans (Nat.succ_le_succ hFn) hb2⟩

set_option maxRecDepth 100000 in
/-- A term that came in. -/
theorem termv_open {H : Type} {enc : TypeId × Value → H} {W : World} {r : Reach} {b0 : Nat} {v : Value} {d : DataW H} {ps : List MemPlace} (hv : Value.okWide Try.prog W r b0 26 v)
    (h : DataW.Trod enc Try.prog W 0 (fun _ => true) true 26 v d ps) (hz : Sz d) :
    ∃ (p : ByteArray × Int) (a : Option Addr) (c : Nat) (l : Fo), v = .agg #[.string p.1, .int .i64 p.2, .slice a (lenF l) c] ∧ TmAt W p a c l ∧ nodesF l + 1 ≤ Rows.uptoBulk d := by
  obtain ⟨cs, rfl, hsz⟩ := okWide_struct Try.underlying26 hv
  obtain ⟨c0, c1, c2, rfl⟩ := Joins.array3 (hsz.trans Try.cells26)
  obtain ⟨fuel, hf⟩ := h
  obtain ⟨p, a, c, l, hcs, h1, h2⟩ := term_open fuel _ _ hf hz
  simp [Value.cells] at hcs
  obtain ⟨rfl, rfl, rfl⟩ := hcs
  exact ⟨p, a, c, l, rfl, h1, h2⟩
/-- Within the first form's reach. -/
theorem sz_of_weights {H : Type} {ts : List TypeId} {ds : List (DataW H)} {j : Nat} {d : DataW H} (h : (DataW.weightsEach Try.prog ts ds).all (· ≤ reachBytes) = true) (ht : ts[j]? = some 26) (hd : ds[j]? = some d) : Sz d :=
  .inl fun m hm => by
    have := List.all_eq_true.1 h _ (DataW.weights_mem_each ht hd m hm)
    have e : reachBytes = 140737488351232 := rfl
    rw [e] at this
    simpa using this
end Go.Proofs.Ytfnfbljijkjkjaa
/- How a signature and an equation that came in are opened. -/
namespace Go.Proofs.Ytfnfbljijkjkjaa
open Go.ChangeShapes Go.WideShapes Go.ChangeAt Go.RowKit Go.Deep

set_option maxRecDepth 100000 in
theorem list_of_each {α : Type} {p : Nat → α → Prop} : ∀ n : Nat, (∀ i, i < n → ∃ x, p i x) → ∃ l : List α, l.length = n ∧ ∀ i (h : i < l.length), p i l[i]
  | 0, _ => ⟨[], rfl, fun i h => absurd h (by simp)⟩
  | n + 1, h => by
    obtain ⟨l, hl, hp⟩ := list_of_each n (fun i hi => h i (by omega))
    obtain ⟨x, hx⟩ := h n (by omega)
    refine ⟨l ++ [x], by simp [hl], fun i hi => ?_⟩
    by_cases hin : i < l.length
    · rw [List.getElem_append_left hin]; exact hp i hin
    · have : i = n := by simp at hi; omega
      subst this
      rw [List.getElem_append_right (by omega)]
      simpa [hl] using hx

set_option maxRecDepth 100000 in
theorem Try.cells57 : Try.prog.cellsOf 57 = 4 := by kernel_rfl
set_option maxRecDepth 100000 in
theorem Try.cells55 : Try.prog.cellsOf 55 = 1 := by kernel_rfl
set_option maxRecDepth 100000 in
theorem Try.bytes57 : Try.prog.bytesOf 57 = 48 := by kernel_rfl

set_option maxRecDepth 100000 in
/-- One symbol's reading. -/
theorem sym_open {H : Type} {enc : TypeId × Value → H} {W : World} {base : Nat} {spare : Nat → Bool} {held : Bool} {fuel : Nat} {cs : List Value} {x : DataW H × List MemPlace}
    (h : DataW.trod enc Try.prog W base spare held fuel 57 cs = some x) : ∃ y : Sym, cs = [.string y.name, .int .i64 y.kind, .int .i64 y.arity, .string y.unit] ∧ y.Fits := by
  obtain ⟨y0, y1, y2, y3, n, _, hl, h0, h1, h2, h3⟩ := Joins.trod_struct4 Try.underlying57 h
  rw [Try.cells57] at hl
  simp only [Try.cells9, Try.cells55, Try.cells3] at h0 h1 h2 h3
  match cs, hl with
  | [c0, c1, c2, c3], _ =>
    obtain ⟨s0, e0, _, f0⟩ := DataW.trod_string Try.underlying9 h0
    obtain ⟨n1, e1, _, _⟩ := DataW.trod_int Try.underlying55 h1
    obtain ⟨n2, e2, _, _⟩ := DataW.trod_int Try.underlying3 h2
    obtain ⟨s3, e3, _, f3⟩ := DataW.trod_string Try.underlying9 h3
    simp at e0 e1 e2 e3
    subst e0 e1 e2 e3
    exact ⟨⟨s0, n1, n2, s3⟩, rfl, f0, f3⟩

set_option maxRecDepth 100000 in
theorem sig_open {H : Type} {enc : TypeId × Value → H} {W : World} {fuel : Nat} {v : Value} {y : DataW H × List MemPlace}
    (hf : DataW.trod enc Try.prog W 0 (fun _ => true) true fuel 23 [v] = some y) :
    ∃ a len cap l, v = .slice a len cap ∧ SigAt W a len l ∧ len ≤ cap := by
  rcases DataW.trod_slice Try.underlying23 hf with ⟨hcs, _⟩ | ⟨x, len, cap, elems, rest, n, _, hcs, hx, hb, hl, hm, hlen, hel, _, _⟩
  · simp at hcs
    subst hcs
    exact ⟨none, 0, 0, [], rfl, ⟨rfl, by simp, fun i hi => absurd hi (by simp), fun s hs => absurd hs (by simp)⟩, Nat.le_refl _⟩
  · simp at hcs
    subst hcs
    rw [Try.cells57] at hel
    have each : ∀ i, i < len → ∃ y : Sym, (∃ cs, W.cells? 0 (x.add (i * 4)) 4 = some cs ∧ cs = [.string y.name, .int .i64 y.kind, .int .i64 y.arity, .string y.unit]) ∧ y.Fits := by
      intro i hi
      have h1 := hel i hi
      rw [List.getElem?_eq_getElem (by omega)] at h1
      cases hc : W.cells? 0 (x.add (i * 4)) 4 with
      | none => rw [hc] at h1; cases h1
      | some cs =>
        rw [hc] at h1
        obtain ⟨y, hy, hyf⟩ := sym_open h1
        exact ⟨y, ⟨cs, rfl, hy⟩, hyf⟩
    obtain ⟨ll, hll, hp⟩ := list_of_each len each
    refine ⟨some x, len, cap, ll, rfl, ⟨hll.symm, by omega, fun i hi => ?_, fun y hy => ?_⟩, hl⟩
    · obtain ⟨⟨cs, h1, h2⟩, _⟩ := hp i hi
      obtain ⟨b, off, spot⟩ := x
      have hspot : spot = none := by
        obtain ⟨⟨cs0, h10, h20⟩, _⟩ := hp 0 (by omega)
        obtain ⟨_, _, h30⟩ := World.cells?_some h10
        have := h30 0 (by omega)
        rw [h20] at this
        simpa [Addr.add] using World.cell?_spot this
      subst hspot
      refine ⟨b, off, rfl, ?_⟩
      rw [addr_add] at h1
      obtain ⟨_, _, h3⟩ := World.cells?_some h1
      subst h2
      have k0 := h3 0 (by omega)
      have k1 := h3 1 (by omega)
      have k2 := h3 2 (by omega)
      have k3 := h3 3 (by omega)
      rw [addr_add] at k0 k1 k2 k3
      exact ⟨k0, k1, k2, k3⟩
    · obtain ⟨i, hi, rfl⟩ := List.getElem_of_mem hy
      exact (hp i hi).2


set_option maxRecDepth 100000 in
theorem Try.cells28 : Try.prog.cellsOf 28 = 6 := by kernel_rfl
/-- An equation's value. -/
def eqC (A B : Tn) (a b : Option Addr) (c d : Nat) : List Value := [.string A.1.1, .int .i64 A.1.2, .slice a (lenF A.2) c, .string B.1.1, .int .i64 B.1.2, .slice b (lenF B.2) d]
set_option maxRecDepth 100000 in
theorem eq_trod {H : Type} {enc : TypeId × Value → H} {W : World} {fuel : Nat} {cl : List Value} {y : DataW H × List MemPlace} (hf : DataW.trod enc Try.prog W 0 (fun _ => true) true fuel 28 cl = some y) (hz : Rows.uptoBulk y.1 ≤ 1048576) :
    ∃ (A B : Tn) (a b : Option Addr) (c d : Nat), cl = eqC A B a b c d ∧ TmAt W A.1 a c A.2 ∧ TmAt W B.1 b d B.2 ∧ nodesF A.2 + nodesF B.2 + 3 ≤ Rows.uptoBulk y.1 := by
  obtain ⟨xs, n, hfuel, hx, hl, hlen, hff⟩ := DataW.trod_struct Try.underlying28 hf
  rw [Try.cells28] at hl
  match xs, hlen, cl, hl with
  | [y0, y1], _, [v0, v1, v2, v3, v4, v5], _ =>
    have g0 := hff 0 _ rfl
    have g1 := hff 1 _ rfl
    simp [Try.cells26] at g0 g1
    have hd : Rows.uptoBulk y0.1 + Rows.uptoBulk y1.1 + 1 ≤ Rows.uptoBulk y.1 := by
      have := congrArg Prod.fst hx
      simp only at this
      rw [this]
      simp only [List.map_cons, List.map_nil, Rows.uptoBulk, Rows.uptoBulkAll]
      omega
    obtain ⟨pa, a, c, la, ea, hA, na⟩ := term_open n _ _ g0 (.inr (by omega))
    obtain ⟨pb, b, d, lb, eb, hB, nb⟩ := term_open n _ _ g1 (.inr (by omega))
    simp at ea eb
    obtain ⟨rfl, rfl, rfl⟩ := ea
    obtain ⟨rfl, rfl, rfl⟩ := eb
    exact ⟨(pa, la), (pb, lb), a, b, c, d, rfl, hA, hB, by show nodesF la + nodesF lb + 3 ≤ _; omega⟩
set_option maxRecDepth 100000 in
theorem eq_open {H : Type} {enc : TypeId × Value → H} {W : World} {r : Reach} {b0 : Nat} {v : Value} {dd : DataW H} {ps : List MemPlace} (hv : Value.okWide Try.prog W r b0 28 v)
    (h : DataW.Trod enc Try.prog W 0 (fun _ => true) true 28 v dd ps) (hz : Rows.uptoBulk dd ≤ 1048576) :
    ∃ (A B : Tn) (a b : Option Addr) (c d : Nat), v = .agg (eqC A B a b c d).toArray ∧ TmAt W A.1 a c A.2 ∧ TmAt W B.1 b d B.2 ∧ nodesF A.2 + nodesF B.2 + 3 ≤ Rows.uptoBulk dd := by
  obtain ⟨cs, rfl, hsz⟩ := okWide_struct Try.underlying28 hv
  obtain ⟨fuel, hf⟩ := h
  obtain ⟨cl⟩ := cs
  obtain ⟨A, B, a, b, c, d, h1, h2⟩ := eq_trod hf hz
  simp only [Value.cells] at h1
  subst h1
  exact ⟨A, B, a, b, c, d, rfl, h2⟩
set_option maxRecDepth 100000 in
theorem sig_full {H : Type} {enc : TypeId × Value → H} {W : World} {v : Value} {dd : DataW H} {ps : List MemPlace} (hc : v.cells.toList = [v])
    (h : DataW.Trod enc Try.prog W 0 (fun _ => true) true 23 v dd ps) (hz : Rows.uptoBulk dd ≤ 1048576) :
    ∃ a len cap l, v = .slice a len cap ∧ SigAt W a len l ∧ len ≤ cap ∧ len ≤ 1048576 := by
  obtain ⟨fuel, hf⟩ := h
  rw [hc] at hf
  obtain ⟨a, len, cap, l, rfl, hS, hcap⟩ := sig_open hf
  refine ⟨a, len, cap, l, rfl, hS, hcap, ?_⟩
  rcases DataW.trod_slice Try.underlying23 hf with ⟨hcs, _⟩ | ⟨x, len2, cap2, elems, rest, n, _, hcs, hx, hb, hl, hm, hlen, hel, _, _⟩
  · simp at hcs
    omega
  · simp at hcs
    obtain ⟨rfl, rfl, rfl⟩ := hcs
    have := congrArg Prod.fst hx
    simp only at this
    rw [this] at hz
    simp only [Rows.uptoBulk] at hz
    have := bulk_len (elems.map (·.1))
    rw [List.length_map] at this
    omega
end Go.Proofs.Ytfnfbljijkjkjaa
/- look of the program. -/
namespace Go.Proofs.Ytfnfbljijkjkjaa
open Go.RowKit Go.Deep

/-- look's own boxes. -/
structure LkBox (w : World) (s t : Tn) (a b : Option Addr) (c d : Nat) (B5 B6 : Nat) (W : World) : Prop where
  low : Below w.heap.size w W
  res : Box W (w.heap.size + 1) 36 zWay
  l : TBox W B5 s.1 a (lenF s.2) c
  r : TBox W B6 t.1 b (lenF t.2) d
  far : w.heap.size + 2 ≤ B5

theorem lk_one {w W0 : World} {s t : Tn} {a b : Option Addr} {c d : Nat} (hb : Below w.heap.size w W0) (hr : Box W0 (w.heap.size + 1) 36 zWay) {q : Nat} (hq : W0.heap.size = q) :
    LkBox w s t a b c d q (q + 1) ((W0.alloc (.cells #[.string s.1.1, .int .i64 s.1.2, .slice a (lenF s.2) c] 26)).alloc (.cells #[.string t.1.1, .int .i64 t.1.2, .slice b (lenF t.2) d] 26)).drew := by
  subst hq
  obtain ⟨h1, h2, h3⟩ := two_new W0 #[.string s.1.1, .int .i64 s.1.2, .slice a (lenF s.2) c] 26 #[.string t.1.1, .int .i64 t.1.2, .slice b (lenF t.2) d] 26
  exact ⟨(hb.trans (h3.mono hb.size)).drew, (hr.below h3).drew, h1, h2, by have := hr.lt; omega⟩
theorem lk_two {w W0 : World} {s t : Tn} {a b : Option Addr} {c d : Nat} (hb : Below w.heap.size w W0) (hr : Box W0 (w.heap.size + 1) 36 zWay) {q : Nat} (hq : W0.heap.size = q) :
    LkBox w s t a b c d (q + 1) q ((W0.alloc (.cells #[.string t.1.1, .int .i64 t.1.2, .slice b (lenF t.2) d] 26)).alloc (.cells #[.string s.1.1, .int .i64 s.1.2, .slice a (lenF s.2) c] 26)).drew := by
  subst hq
  obtain ⟨h1, h2, h3⟩ := two_new W0 #[.string t.1.1, .int .i64 t.1.2, .slice b (lenF t.2) d] 26 #[.string s.1.1, .int .i64 s.1.2, .slice a (lenF s.2) c] 26
  exact ⟨(hb.trans (h3.mono hb.size)).drew, (hr.below h3).drew, h2, h1, by have := hr.lt; omega⟩

/-- The answer is stored. -/
theorem look_end {w wt W : World} {x0 x1 x2 x3 x4 x5 x6 : Value} {V : Wy} (hb : Below w.heap.size w W) (hv : LookAt (w.heap.size + 2) wt W (.agg #[x0, x1, x2, x3, x4, x5, x6]) V) :
    (∃ v, Ending.returned (Value.agg #[x0, x1, x2, x3, x4, x5, x6]) = .returned v ∧ LookAt w.heap.size wt (((((((W.setCell ⟨w.heap.size + 1, 0, none⟩ x0).setCell ⟨w.heap.size + 1, 1, none⟩ x1).setCell ⟨w.heap.size + 1, 2, none⟩ x2).setCell ⟨w.heap.size + 1, 3, none⟩ x3).setCell ⟨w.heap.size + 1, 4, none⟩ x4).setCell ⟨w.heap.size + 1, 5, none⟩ x5).setCell ⟨w.heap.size + 1, 6, none⟩ x6) v V) ∧
    Below w.heap.size w (((((((W.setCell ⟨w.heap.size + 1, 0, none⟩ x0).setCell ⟨w.heap.size + 1, 1, none⟩ x1).setCell ⟨w.heap.size + 1, 2, none⟩ x2).setCell ⟨w.heap.size + 1, 3, none⟩ x3).setCell ⟨w.heap.size + 1, 4, none⟩ x4).setCell ⟨w.heap.size + 1, 5, none⟩ x5).setCell ⟨w.heap.size + 1, 6, none⟩ x6) :=
  ⟨⟨_, rfl, (hv.keep (fun q hq _ => sets7_far (by omega) _ _ _ _ _ _ _)).mono (by omega)⟩, sets7_below hb (by omega) _ _ _ _ _ _ _⟩

set_option maxRecDepth 100000 in
set_option maxHeartbeats 4000000 in
theorem look_any (S : Option Addr) (n cap : Nat) (sg : List Sym) (s t : Tn) (a b : Option Addr) (c d : Nat) (wt w : World) (hG : SigAt w S n sg) (hS : TmAt wt s.1 a c s.2) (hT : TmAt wt t.1 b d t.2) (hw : Below wt.heap.size wt w) (hM : nodesF s.2 ≤ 1048576) (hN : nodesF t.2 ≤ 1048576) :
    Calls Try.prog 21 #[.slice S n cap, .agg #[.string s.1.1, .int .i64 s.1.2, .slice a (lenF s.2) c, .string t.1.1, .int .i64 t.1.2, .slice b (lenF t.2) d]] w fun e w' => (∃ v, e = .returned v ∧ LookAt w.heap.size wt w' v (lookP sg s t)) ∧ Below w.heap.size w w' := by
  obtain ⟨⟨xn, xs⟩, l⟩ := s
  obtain ⟨⟨yn, ys⟩, m⟩ := t
  dsimp only at *
  obtain ⟨b1, b2, hb0⟩ := two_new w #[.string xn, .int .i64 xs, .slice a (lenF l) c, .string yn, .int .i64 ys, .slice b (lenF m) d] 28 zWay 36
  have HG := hid hG; have HS := hid hS; have HT := hid hT; have HW := hid hw
  have HR := hid b2; have HB0 := hid hb0
  have hsz : Hid (((w.alloc (.cells #[.string xn, .int .i64 xs, .slice a (lenF l) c, .string yn, .int .i64 ys, .slice b (lenF m) d] 28)).alloc (.cells zWay 36)).heap.size = w.heap.size + 2) := hid (by simp)
  have c0 : ((w.alloc (.cells #[.string xn, .int .i64 xs, .slice a (lenF l) c, .string yn, .int .i64 ys, .slice b (lenF m) d] 28)).alloc (.cells zWay 36)).cell? ⟨w.heap.size, 0, none⟩ = some (.string xn) := b1.c 0
  have c1 : ((w.alloc (.cells #[.string xn, .int .i64 xs, .slice a (lenF l) c, .string yn, .int .i64 ys, .slice b (lenF m) d] 28)).alloc (.cells zWay 36)).cell? ⟨w.heap.size, 1, none⟩ = some (.int .i64 xs) := b1.c 1
  have c2 : ((w.alloc (.cells #[.string xn, .int .i64 xs, .slice a (lenF l) c, .string yn, .int .i64 ys, .slice b (lenF m) d] 28)).alloc (.cells zWay 36)).cell? ⟨w.heap.size, 2, none⟩ = some (.slice a (lenF l) c) := b1.c 2
  have c3 : ((w.alloc (.cells #[.string xn, .int .i64 xs, .slice a (lenF l) c, .string yn, .int .i64 ys, .slice b (lenF m) d] 28)).alloc (.cells zWay 36)).cell? ⟨w.heap.size, 3, none⟩ = some (.string yn) := b1.c 3
  have c4 : ((w.alloc (.cells #[.string xn, .int .i64 xs, .slice a (lenF l) c, .string yn, .int .i64 ys, .slice b (lenF m) d] 28)).alloc (.cells zWay 36)).cell? ⟨w.heap.size, 4, none⟩ = some (.int .i64 ys) := b1.c 4
  have c5 : ((w.alloc (.cells #[.string xn, .int .i64 xs, .slice a (lenF l) c, .string yn, .int .i64 ys, .slice b (lenF m) d] 28)).alloc (.cells zWay 36)).cell? ⟨w.heap.size, 5, none⟩ = some (.slice b (lenF m) d) := b1.c 5
  obtain ⟨V, hV⟩ : ∃ V, lookP sg ((xn, xs), l) ((yn, ys), m) = V := ⟨_, rfl⟩
  rw [hV]
  have HVV := hid hV
  clear hG hS hT hw b1 b2 hb0 hV
  go_enter Try.func21, Try.ntmps21
  go_upto_region 1 with fail
  go_cut [5, 6] (fun p q W => ∃ B5 B6, p = .pointer (some ⟨B5, 0, none⟩) ∧ q = .pointer (some ⟨B6, 0, none⟩) ∧ LkBox w ((xn, xs), l) ((yn, ys), m) a b c d B5 B6 W)
  case first =>
    go_region
    all_goals (go_wp2_with fail; go_meet)
    all_goals first
      | exact ⟨_, _, rfl, rfl, lk_one HB0.out HR.out hsz.out⟩
      | exact ⟨_, _, rfl, rfl, lk_two HB0.out HR.out hsz.out⟩
  case rest =>
    obtain ⟨B5, B6, rfl, rfl, hk⟩ := hcut
    have HK := hid hk
    have p0 := hk.l.c0; have p1 := hk.l.c1; have p2 := hk.l.c2
    have q0 := hk.r.c0; have q1 := hk.r.c1; have q2 := hk.r.c2
    dsimp only at p0 p1 p2 q0 q1 q2
    have hWW := HW.out.trans (hk.low.mono HW.out.size)
    have H40 := hid (ofVars_any ((xn, xs), l) ((yn, ys), m) a b c d wt wc HS.out HT.out hWW)
    have H41 := hid (ofVar_any xn ((yn, ys), m) b d wt wc HT.out hWW hN)
    have H41' := hid (ofVar_any yn ((xn, xs), l) a c wt wc HS.out hWW hM)
    have H42 := hid (isFree_any S n cap sg xs wc (HG.out.below hk.low))
    have H43 := hid (sideBySide_any (xn, xs) (yn, ys) l m a b c d wt wc HS.out HT.out hWW hM)
    clear hk c0 c1 c2 c3 c4 c5 HR HB0 hsz hWW
    dsimp only at *
    cases hx : xn.toList.isEmpty
    · have ex : noName xn = false := hx
      cases hy : yn.toList.isEmpty
      · have ey : noName yn = false := hy
        have HVE : Hid (V = ofVarsP ((xn, xs), l) ((yn, ys), m)) := hid (by rw [← HVV.out]; unfold lookP; simp [ex, ey])
        clear ex ey
        go_wp2_with (first
          | (go_at_call 40; refine (H40.out).mono ?_; rintro e w2 ⟨⟨v, rfl, hv⟩, hb2⟩; have HV := hid (hv.look (base := w.heap.size + 2) (w := w2) (ofVars_none _ _)); have HB2 := hid (HK.out.low.trans (hb2.mono HK.out.low.size)); have Y2 := HK.out.res.below hb2; have HR2 := hid Y2; obtain ⟨tk, ks, la, lc, rfl, hrest⟩ := HV.out.is; have HREST := hid hrest; have r0 := Y2.c 0; have r1 := Y2.c 1; have r2 := Y2.c 2; have r3 := Y2.c 3; have r4 := Y2.c 4; have r5 := Y2.c 5; have r6 := Y2.c 6; have g0 := Y2.f 0; have g1 := Y2.f 1; have g2 := Y2.f 2; have g3 := Y2.f 3; have g4 := Y2.f 4; have g5 := Y2.f 5; have g6 := Y2.f 6; clear hb2 Y2 hrest hv p0 p1 p2 q0 q1 q2; unfold wayC))
        refine bodyPost_ret (results_cell_row rfl _ _ (w.heap.size + 1) 36 (wayC _ _ _ _ _ _ _ _ _ _) (0, 0) _ rfl (box7_all HR2.out _ _ _ _ _ _ _) Try.underlying36 rfl Try.size36) rfl ?_
        exact look_end HB2.out (by rw [HVE.out]; exact HV.out)
      · have ey : noName yn = true := hy
        have HVE : Hid (V = ofVarP xn ((yn, ys), m)) := hid (by rw [← HVV.out]; unfold lookP; simp [ex, ey])
        clear ex ey
        go_wp2_with (first
          | (go_at_call 41; refine (H41.out).mono ?_; rintro e w2 ⟨⟨v, rfl, hv⟩, hb2⟩; have HV := hid (hv.look (base := w.heap.size + 2) (w := w2) (ofVar_none _ _)); have HB2 := hid (HK.out.low.trans (hb2.mono HK.out.low.size)); have Y2 := HK.out.res.below hb2; have HR2 := hid Y2; obtain ⟨tk, ks, la, lc, rfl, hrest⟩ := HV.out.is; have HREST := hid hrest; have r0 := Y2.c 0; have r1 := Y2.c 1; have r2 := Y2.c 2; have r3 := Y2.c 3; have r4 := Y2.c 4; have r5 := Y2.c 5; have r6 := Y2.c 6; have g0 := Y2.f 0; have g1 := Y2.f 1; have g2 := Y2.f 2; have g3 := Y2.f 3; have g4 := Y2.f 4; have g5 := Y2.f 5; have g6 := Y2.f 6; clear hb2 Y2 hrest hv p0 p1 p2 q0 q1 q2; unfold wayC))
        refine bodyPost_ret (results_cell_row rfl _ _ (w.heap.size + 1) 36 (wayC _ _ _ _ _ _ _ _ _ _) (0, 0) _ rfl (box7_all HR2.out _ _ _ _ _ _ _) Try.underlying36 rfl Try.size36) rfl ?_
        exact look_end HB2.out (by rw [HVE.out]; exact HV.out)
    · have ex : noName xn = true := hx
      cases hy : yn.toList.isEmpty
      · have ey : noName yn = false := hy
        have HVE : Hid (V = ofVarP yn ((xn, xs), l)) := hid (by rw [← HVV.out]; unfold lookP; simp [ex, ey])
        clear ex ey
        go_wp2_with (first
          | (go_at_call 41; refine (H41'.out).mono ?_; rintro e w2 ⟨⟨v, rfl, hv⟩, hb2⟩; have HV := hid (hv.look (base := w.heap.size + 2) (w := w2) (ofVar_none _ _)); have HB2 := hid (HK.out.low.trans (hb2.mono HK.out.low.size)); have Y2 := HK.out.res.below hb2; have HR2 := hid Y2; obtain ⟨tk, ks, la, lc, rfl, hrest⟩ := HV.out.is; have HREST := hid hrest; have r0 := Y2.c 0; have r1 := Y2.c 1; have r2 := Y2.c 2; have r3 := Y2.c 3; have r4 := Y2.c 4; have r5 := Y2.c 5; have r6 := Y2.c 6; have g0 := Y2.f 0; have g1 := Y2.f 1; have g2 := Y2.f 2; have g3 := Y2.f 3; have g4 := Y2.f 4; have g5 := Y2.f 5; have g6 := Y2.f 6; clear hb2 Y2 hrest hv p0 p1 p2 q0 q1 q2; unfold wayC))
        refine bodyPost_ret (results_cell_row rfl _ _ (w.heap.size + 1) 36 (wayC _ _ _ _ _ _ _ _ _ _) (0, 0) _ rfl (box7_all HR2.out _ _ _ _ _ _ _) Try.underlying36 rfl Try.size36) rfl ?_
        exact look_end HB2.out (by rw [HVE.out]; exact HV.out)
      · have ey : noName yn = true := hy
        by_cases hsy : xs = ys
        · subst hsy
          have hne : (xs != xs) = false := by simp
          cases hfr : freeB sg xs
          · have HVE : Hid (V = ⟨5, noS, zT, [], xs⟩) := hid (by rw [← HVV.out]; unfold lookP; simp [ex, ey, hfr])
            have HFR := hid hfr
            have Y2 := HK.out.res
            have r0 := Y2.c 0; have r1 := Y2.c 1; have r2 := Y2.c 2; have r3 := Y2.c 3; have r4 := Y2.c 4; have r5 := Y2.c 5; have r6 := Y2.c 6; have g0 := Y2.f 0; have g1 := Y2.f 1; have g2 := Y2.f 2; have g3 := Y2.f 3; have g4 := Y2.f 4; have g5 := Y2.f 5; have g6 := Y2.f 6
            clear ex ey hfr Y2
            go_wp2_with (go_at_call 42; refine H42.out.mono ?_; rintro e w3 ⟨rfl, rfl⟩; rw [HFR.out])
            refine bodyPost_ret (results_cell_row rfl _ _ (w.heap.size + 1) 36 (wayC 5 noS (noS, 0) none 0 0 none 0 0 xs) (0, 0) _ rfl (box7_all HK.out.res _ _ _ _ _ _ _) Try.underlying36 rfl Try.size36) rfl ?_
            exact look_end HK.out.low (by rw [HVE.out]; exact WayAt.look (W := ⟨5, noS, zT, [], xs⟩) ⟨none, 0, none, 0, rfl, zT_at _, fun _ => ⟨rfl, rfl⟩⟩ rfl)
          · have HVE : Hid (V = sideP l m) := hid (by rw [← HVV.out]; unfold lookP; simp [ex, ey, hfr])
            have HFR := hid hfr
            have HSZ2 : Hid (w.heap.size + 2 ≤ wc.heap.size) := hid (by have := HK.out.l.lt; have := HK.out.far; omega)
            clear ex ey hfr
            go_wp2_with (first
              | (go_at_call 42; refine H42.out.mono ?_; rintro e w3 ⟨rfl, rfl⟩; rw [HFR.out])
              | (go_at_call 43; refine (H43.out).mono ?_; rintro e w2 ⟨⟨v, rfl, hv⟩, hb2⟩; have HV := hid (hv.mono (base' := w.heap.size + 2) HSZ2.out); have HB2 := hid (HK.out.low.trans (hb2.mono HK.out.low.size)); have Y2 := HK.out.res.below hb2; have HR2 := hid Y2; obtain ⟨tk, ks, la, lc, rfl, hrest⟩ := HV.out.is; have r0 := Y2.c 0; have r1 := Y2.c 1; have r2 := Y2.c 2; have r3 := Y2.c 3; have r4 := Y2.c 4; have r5 := Y2.c 5; have r6 := Y2.c 6; have g0 := Y2.f 0; have g1 := Y2.f 1; have g2 := Y2.f 2; have g3 := Y2.f 3; have g4 := Y2.f 4; have g5 := Y2.f 5; have g6 := Y2.f 6; clear hb2 Y2 hrest hv p0 p1 p2 q0 q1 q2; unfold wayC))
            refine bodyPost_ret (results_cell_row rfl _ _ (w.heap.size + 1) 36 (wayC _ _ _ _ _ _ _ _ _ _) (0, 0) _ rfl (box7_all HR2.out _ _ _ _ _ _ _) Try.underlying36 rfl Try.size36) rfl ?_
            exact look_end HB2.out (by rw [HVE.out]; exact HV.out)
        · have hne : (xs != ys) = true := by simp [hsy]
          have HVE : Hid (V = actW 2) := hid (by rw [← HVV.out]; unfold lookP; simp [ex, ey, hsy])
          have Y2 := HK.out.res
          have r0 := Y2.c 0; have r1 := Y2.c 1; have r2 := Y2.c 2; have r3 := Y2.c 3; have r4 := Y2.c 4; have r5 := Y2.c 5; have r6 := Y2.c 6; have g0 := Y2.f 0; have g1 := Y2.f 1; have g2 := Y2.f 2; have g3 := Y2.f 3; have g4 := Y2.f 4; have g5 := Y2.f 5; have g6 := Y2.f 6
          clear ex ey Y2
          go_wp2_with fail
          refine bodyPost_ret (results_cell_row rfl _ _ (w.heap.size + 1) 36 (wayC 2 noS (noS, 0) none 0 0 none 0 0 0) (0, 0) _ rfl (box7_all HK.out.res _ _ _ _ _ _ _) Try.underlying36 rfl Try.size36) rfl ?_
          exact look_end HK.out.low (by rw [HVE.out]; exact WayAt.look (W := actW 2) ⟨none, 0, none, 0, rfl, zT_at _, fun _ => ⟨rfl, rfl⟩⟩ rfl)
end Go.Proofs.Ytfnfbljijkjkjaa
/- clone and One of the program. -/
namespace Go.Proofs.Ytfnfbljijkjkjaa
open Go.RowKit Go.Deep

/-- A row of equations, or none. -/
def RowQ (base : Nat) (w : World) (la : Option Addr) (n lc : Nat) (ks : List Kv) : Prop := (n = 0 ∧ la = none ∧ lc = 0) ∨ ∃ g, la = some ⟨g, 0, none⟩ ∧ base ≤ g ∧ lc = n ∧ EqRow w g n ks
theorem RowQ.keep {base : Nat} {w w' : World} {la : Option Addr} {n lc : Nat} {ks : List Kv} (h : RowQ base w la n lc ks) (hb : ∀ q, la = some ⟨q, 0, none⟩ → q < w.heap.size → w'.heap[q]? = w.heap[q]?) : RowQ base w' la n lc ks := by
  rcases h with h | ⟨g, h1, h2, h3, h4⟩
  · exact .inl h
  · exact .inr ⟨g, h1, h2, h3, h4.keep (hb g h1 h4.lt)⟩
theorem RowQ.below {base : Nat} {w w' : World} {la : Option Addr} {n lc : Nat} {ks : List Kv} (h : RowQ base w la n lc ks) (hb : Below w.heap.size w w') : RowQ base w' la n lc ks := h.keep (fun q _ hq => hb.block q hq)
/-- What One answers: all of it in new memory, no two lists of it in one block. -/
structure OneAt (base : Nat) (w : World) (v : Value) (W : Wy) : Prop where
  is : ∃ (tk : Kv) (ks : List Kv) (la : Option Addr) (lc : Nat), v = .agg (wayC W.act W.bv tk.x tk.a (lenF tk.l) tk.c la W.ls.length lc W.sym) ∧ tk.tn = W.t ∧ ks.map Kv.tn = flatL W.ls ∧ RowQ base w la W.ls.length lc ks ∧ SepL w (tk :: ks) (fun q => base ≤ q ∧ q < w.heap.size ∧ la ≠ some ⟨q, 0, none⟩)

/-- clone's boxes and what it has done so far. -/
structure ClSt (base : Nat) (wt w : World) (act : Int) (bv : ByteArray) (sym : Int) (la : Option Addr) (n lc : Nat) (ks : List Kv) (tk : Kv) (j : Nat) (ds : List Kv) (W : World) : Prop where
  low : Below base w W
  old : Below wt.heap.size wt W
  big : w.heap.size + 2 ≤ W.heap.size
  b : Box W w.heap.size 36 (wayC act bv tk.x tk.a (lenF tk.l) tk.c la n lc sym)
  z : Box W (w.heap.size + 1) 36 zWay
  row : RowQ base W la n lc (ds ++ ks.drop (2 * j))
  len : ds.length = 2 * j
  tn : ds.map Kv.tn = (ks.map Kv.tn).take (2 * j)
  sep : SepL W (tk :: ds) (fun q => w.heap.size + 2 ≤ q ∧ q < W.heap.size)

theorem ClSt.below {base : Nat} {wt w : World} {act : Int} {bv : ByteArray} {sym : Int} {la : Option Addr} {n lc : Nat} {ks : List Kv} {tk : Kv} {j : Nat} {ds : List Kv} {W W' : World} (h : ClSt base wt w act bv sym la n lc ks tk j ds W) (hb : Below W.heap.size W W') (hw : base ≤ w.heap.size) (ht : wt.heap.size ≤ W.heap.size) : ClSt base wt w act bv sym la n lc ks tk j ds W' :=
  ⟨h.low.trans (hb.mono (by have := h.big; omega)), h.old.trans (hb.mono ht), Nat.le_trans h.big hb.size, h.b.below hb, h.z.below hb, h.row.below hb, h.len, h.tn,
    (h.sep.keep (fun q _ hq => hb.block q hq)).mono (fun q hq => ⟨hq.1, Nat.lt_of_lt_of_le hq.2 hb.size⟩)⟩

theorem set6_cell {W : World} {g q i o : Nat} {k1 k2 : Kv} (h : q ≠ g) : (set6 W g o k1 k2).cell? ⟨q, i, none⟩ = W.cell? ⟨q, i, none⟩ := by
  have h2 := set6_far (W := W) h o k1 k2
  generalize set6 W g o k1 k2 = V at h2 ⊢
  exact World.cell?_of_block h2
theorem mid_cell (ds r : List Kv) (k1 k2 : Kv) (j c : Nat) (h : ds.length = 2 * j) : (kvCells (ds ++ k1 :: k2 :: r))[j * 6 + c]? = (kvCells (k1 :: k2 :: r))[c]? := by
  rw [kvCells_app, List.getElem?_append_right (by rw [kvCells_len]; omega), kvCells_len]
  congr 1; omega
theorem sets3_box {W : World} {B : Nat} {y0 y1 y2 y3 y4 y5 y6 : Value} (h : Box W B 36 #[y0, y1, y2, y3, y4, y5, y6]) (x2 x3 x4 : Value) : Box (((W.setCell ⟨B, 2, none⟩ x2).setCell ⟨B, 3, none⟩ x3).setCell ⟨B, 4, none⟩ x4) B 36 #[y0, y1, x2, x3, x4, y5, y6] := by
  have h2 : Box (W.setCell ⟨B, 2, none⟩ x2) B 36 #[y0, y1, x2, y3, y4, y5, y6] := block_set (k := 2) h x2
  have h3 : Box ((W.setCell ⟨B, 2, none⟩ x2).setCell ⟨B, 3, none⟩ x3) B 36 #[y0, y1, x2, x3, y4, y5, y6] := block_set (k := 3) h2 x3
  exact block_set (k := 4) h3 x4
theorem sets3_far {W : World} {B q : Nat} (h : q ≠ B) (x2 x3 x4 : Value) : (((W.setCell ⟨B, 2, none⟩ x2).setCell ⟨B, 3, none⟩ x3).setCell ⟨B, 4, none⟩ x4).heap[q]? = W.heap[q]? :=
  ((Below.heap_setCell _ _ _ _ h).trans (Below.heap_setCell _ _ _ _ h)).trans (Below.heap_setCell _ _ _ _ h)
theorem sets3_below {n0 : Nat} {w W : World} {B : Nat} (hb : Below n0 w W) (h : n0 ≤ B) (x2 x3 x4 : Value) : Below n0 w (((W.setCell ⟨B, 2, none⟩ x2).setCell ⟨B, 3, none⟩ x3).setCell ⟨B, 4, none⟩ x4) :=
  ((hb.setCell (p := ⟨B, 2, none⟩) h _).setCell (p := ⟨B, 3, none⟩) h _).setCell (p := ⟨B, 4, none⟩) h _
/-- The bind's term is cloned: nothing else is done yet. -/
theorem cl_start {base : Nat} {wt w w1 : World} {act : Int} {bv : ByteArray} {sym : Int} {la : Option Addr} {n lc : Nat} {ks : List Kv} {tk : Kv} {a' : Option Addr} {c' : Nat} (hw : Below wt.heap.size wt w) (hbw : base ≤ w.heap.size) (hb1 : Below w.heap.size w w1) (hsz : w.heap.size + 2 ≤ w1.heap.size)
    (hb : Box w1 w.heap.size 36 (wayC act bv tk.x tk.a (lenF tk.l) tk.c la n lc sym)) (hz : Box w1 (w.heap.size + 1) 36 zWay) (hrow : RowQ base w la n lc ks) (hs : SepTm w1 (fun q => w.heap.size + 2 ≤ q) tk.x a' c' tk.l) :
    ClSt base wt w act bv sym la n lc ks ⟨tk.x, tk.l, a', c'⟩ 0 [] (((w1.setCell ⟨w.heap.size, 2, none⟩ (.string tk.x.1)).setCell ⟨w.heap.size, 3, none⟩ (.int .i64 tk.x.2)).setCell ⟨w.heap.size, 4, none⟩ (.slice a' (lenF tk.l) c')) := by
  have hsz2 : (((w1.setCell ⟨w.heap.size, 2, none⟩ (.string tk.x.1)).setCell ⟨w.heap.size, 3, none⟩ (.int .i64 tk.x.2)).setCell ⟨w.heap.size, 4, none⟩ (.slice a' (lenF tk.l) c')).heap.size = w1.heap.size := by simp
  have hwb := sets3_below (B := w.heap.size) hb1 (Nat.le_refl _) (.string tk.x.1) (.int .i64 tk.x.2) (.slice a' (lenF tk.l) c')
  refine ⟨hwb.mono hbw, hw.trans (hwb.mono hw.size), by omega, sets3_box hb _ _ _, (sets3_far (by omega) _ _ _).trans hz, ?_, rfl, by simp, ?_⟩
  · rw [List.nil_append, Nat.mul_zero, List.drop_zero]
    exact hrow.below hwb
  · refine ⟨fun q => w.heap.size + 2 ≤ q ∧ q < w1.heap.size, fun _ => False, fun q hq => ⟨hq.1, by omega⟩, fun _ h => h.elim, ?_, trivial⟩
    exact hs.within.keep (fun q hq _ => sets3_far (by omega) _ _ _)

/-- One more equation is cloned. -/
theorem cl_step {base : Nat} {wt w : World} {act : Int} {bv : ByteArray} {sym : Int} {g n : Nat} {ks : List Kv} {tk : Kv} {j : Nat} {ds : List Kv} {E v1 v2 : World} {o1 o2 k1 k2 : Kv} (h : ClSt base wt w act bv sym (some ⟨g, 0, none⟩) n n ks tk j ds E) (hbw : base ≤ w.heap.size) (hbs : wt.heap.size ≤ base) (hgb : base ≤ g) (hgn : g < w.heap.size) (hjn : j < n)
    (he : EqRow E g n (ds ++ o1 :: o2 :: ks.drop (2 * (j + 1)))) (hd : ks.drop (2 * j) = o1 :: o2 :: ks.drop (2 * (j + 1))) (e1 : k1.tn = o1.tn) (e2 : k2.tn = o2.tn)
    (hb1 : Below E.heap.size E v1) (hs1 : SepTm v1 (fun q => E.heap.size ≤ q) k1.x k1.a k1.c k1.l) (hb2 : Below v1.heap.size v1 v2) (hs2 : SepTm v2 (fun q => v1.heap.size ≤ q) k2.x k2.a k2.c k2.l) :
    ClSt base wt w act bv sym (some ⟨g, 0, none⟩) n n ks tk (j + 1) (ds ++ [k1, k2]) (set6 v2 g (j * 6) k1 k2) := by
  have hb12 := hb1.trans (hb2.mono hb1.size)
  have hbig := h.big
  have hz1 := hb1.size
  have hz2 := hb2.size
  have h2 := h.below hb12 hbw (by omega)
  have hsz := set6_size v2 g (j * 6) k1 k2
  have hfar : ∀ q, q ≠ g → (set6 v2 g (j * 6) k1 k2).heap[q]? = v2.heap[q]? := fun q hq => set6_far hq _ _ _
  have hbl := set6_below h2.low hgb (j * 6) k1 k2
  have hbo := set6_below h2.old (Nat.le_trans hbs hgb) (j * 6) k1 k2
  have hrow : EqRow (set6 v2 g (j * 6) k1 k2) g n (ds ++ [k1, k2] ++ ks.drop (2 * (j + 1))) := by
    have h3 := he.below hb12
    rw [show ds ++ o1 :: o2 :: ks.drop (2 * (j + 1)) = ds ++ [o1, o2] ++ ks.drop (2 * (j + 1)) by simp] at h3
    exact h3.put (by rw [h.len]; omega) (by omega) k1 k2
  generalize set6 v2 g (j * 6) k1 k2 = V at hsz hfar hbl hbo hrow ⊢
  refine ⟨hbl, hbo, by omega, (hfar _ (by omega)).trans h2.b, (hfar _ (by omega)).trans h2.z, .inr ⟨g, rfl, hgb, rfl, hrow⟩, by rw [List.length_append, h.len]; simp only [List.length_cons, List.length_nil]; omega, ?_, ?_⟩
  · rw [List.map_append, h.tn]
    have e3 : (ks.map Kv.tn).drop (2 * j) = o1.tn :: o2.tn :: (ks.map Kv.tn).drop (2 * (j + 1)) := by rw [← List.map_drop, hd]; simp
    have e4 : (ks.map Kv.tn).take (2 * (j + 1)) = (ks.map Kv.tn).take (2 * j) ++ ((ks.map Kv.tn).drop (2 * j)).take 2 := by
      rw [show 2 * (j + 1) = 2 * j + 2 by omega, List.take_add]
    rw [e4, e3]
    simp [e1, e2]
  · have s1 : SepL v1 (tk :: ds) (fun q => w.heap.size + 2 ≤ q ∧ q < E.heap.size) := h.sep.keep (fun q _ hq => hb1.block q hq)
    have s2 := SepL.snoc hs1.within (fun q hq h' => by have := h'.1; omega) s1
    have s3 := s2.keep (fun q _ hq => hb2.block q hq)
    have s4 := SepL.snoc hs2.within (fun q hq h' => by
      rcases hq with hq | hq
      · have := h'.1; omega
      · have := h'.1; omega) s3
    rw [show tk :: (ds ++ [k1, k2]) = tk :: ds ++ [k1] ++ [k2] by simp]
    refine (s4.keep (fun q hq _ => hfar q ?_)).mono (fun q hq => ?_)
    · rcases hq with (hq | hq) | hq
      · omega
      · have := hq.1; omega
      · have := hq.1; omega
    · rcases hq with (hq | hq) | hq
      · exact ⟨hq.1, by omega⟩
      · exact ⟨by have := hq.1; omega, by have := hq.2; omega⟩
      · exact ⟨by have := hq.1; omega, by have := hq.2; omega⟩

/-- All are cloned, and the answer is stored. -/
theorem cl_end {base : Nat} {wt w : World} {act : Int} {bv : ByteArray} {sym : Int} {la : Option Addr} {n lc : Nat} {ks : List Kv} {tk0 : Kv} {tt : Tn} {ls : List (Tn × Tn)} {a' : Option Addr} {c' : Nat} {ds : List Kv} {W : World} (h : ClSt base wt w act bv sym la n lc ks ⟨tk0.x, tk0.l, a', c'⟩ n ds W) (hbw : base ≤ w.heap.size) (hkl : ks.length = 2 * n) (hks : ks.map Kv.tn = flatL ls) (htk : tk0.tn = tt) (hnn : ls.length = n) (hrg : ∀ q, la = some ⟨q, 0, none⟩ → q < w.heap.size) :
    (∃ v', Ending.returned (Value.agg (wayC act bv tk0.x a' (lenF tk0.l) c' la n lc sym)) = .returned v' ∧ OneAt base (((((((W.setCell ⟨w.heap.size + 1, 0, none⟩ (.int .i64 act)).setCell ⟨w.heap.size + 1, 1, none⟩ (.string bv)).setCell ⟨w.heap.size + 1, 2, none⟩ (.string tk0.x.1)).setCell ⟨w.heap.size + 1, 3, none⟩ (.int .i64 tk0.x.2)).setCell ⟨w.heap.size + 1, 4, none⟩ (.slice a' (lenF tk0.l) c')).setCell ⟨w.heap.size + 1, 5, none⟩ (.slice la n lc)).setCell ⟨w.heap.size + 1, 6, none⟩ (.int .i64 sym)) v' ⟨act, bv, tt, ls, sym⟩) ∧
    Below base w (((((((W.setCell ⟨w.heap.size + 1, 0, none⟩ (.int .i64 act)).setCell ⟨w.heap.size + 1, 1, none⟩ (.string bv)).setCell ⟨w.heap.size + 1, 2, none⟩ (.string tk0.x.1)).setCell ⟨w.heap.size + 1, 3, none⟩ (.int .i64 tk0.x.2)).setCell ⟨w.heap.size + 1, 4, none⟩ (.slice a' (lenF tk0.l) c')).setCell ⟨w.heap.size + 1, 5, none⟩ (.slice la n lc)).setCell ⟨w.heap.size + 1, 6, none⟩ (.int .i64 sym)) := by
  have hB := sets7_below (B := w.heap.size + 1) h.low (by omega) (.int .i64 act) (.string bv) (.string tk0.x.1) (.int .i64 tk0.x.2) (.slice a' (lenF tk0.l) c') (.slice la n lc) (.int .i64 sym)
  have hF : ∀ q, q ≠ w.heap.size + 1 → _ := fun q hq => sets7_far (W := W) (B := w.heap.size + 1) (q := q) hq (.int .i64 act) (.string bv) (.string tk0.x.1) (.int .i64 tk0.x.2) (.slice a' (lenF tk0.l) c') (.slice la n lc) (.int .i64 sym)
  have hZ : (((((((W.setCell ⟨w.heap.size + 1, 0, none⟩ (.int .i64 act)).setCell ⟨w.heap.size + 1, 1, none⟩ (.string bv)).setCell ⟨w.heap.size + 1, 2, none⟩ (.string tk0.x.1)).setCell ⟨w.heap.size + 1, 3, none⟩ (.int .i64 tk0.x.2)).setCell ⟨w.heap.size + 1, 4, none⟩ (.slice a' (lenF tk0.l) c')).setCell ⟨w.heap.size + 1, 5, none⟩ (.slice la n lc)).setCell ⟨w.heap.size + 1, 6, none⟩ (.int .i64 sym)).heap.size = W.heap.size := by simp
  generalize ((((((W.setCell ⟨w.heap.size + 1, 0, none⟩ (.int .i64 act)).setCell ⟨w.heap.size + 1, 1, none⟩ (.string bv)).setCell ⟨w.heap.size + 1, 2, none⟩ (.string tk0.x.1)).setCell ⟨w.heap.size + 1, 3, none⟩ (.int .i64 tk0.x.2)).setCell ⟨w.heap.size + 1, 4, none⟩ (.slice a' (lenF tk0.l) c')).setCell ⟨w.heap.size + 1, 5, none⟩ (.slice la n lc)).setCell ⟨w.heap.size + 1, 6, none⟩ (.int .i64 sym) = V at hB hF hZ ⊢
  subst hnn htk
  have hbig := h.big
  have hds : ds ++ ks.drop (2 * ls.length) = ds := by rw [List.drop_of_length_le (by omega), List.append_nil]
  have htn : ds.map Kv.tn = flatL ls := by rw [h.tn, hks, List.take_of_length_le (by rw [flat_len]; omega)]
  refine ⟨⟨_, rfl, ⟨⟨tk0.x, tk0.l, a', c'⟩, ds, la, lc, rfl, rfl, htn, ?_, ?_⟩⟩, hB⟩
  · have := h.row
    rw [hds] at this
    exact this.keep (fun q hq _ => hF q (by have := hrg q hq; omega))
  · refine (h.sep.keep (fun q hq _ => hF q (by omega))).mono (fun q hq => ⟨by have := hq.1; omega, by rw [hZ]; exact hq.2, fun e => by have := hrg q e; have := hq.1; omega⟩)

set_option maxRecDepth 100000 in
set_option maxHeartbeats 4000000 in
theorem cloneWay_any (base : Nat) (V : Wy) (v : Value) (wt w : World) (hv : LookAt base wt w v V) (hw : Below wt.heap.size wt w) (hbs : wt.heap.size ≤ base) (hbw : base ≤ w.heap.size) (hn : V.ls.length ≤ 1048576) :
    Calls Try.prog 20 #[v] w fun e w' => (∃ v', e = .returned v' ∧ OneAt base w' v' V) ∧ Below base w w' := by
  obtain ⟨act, bv, tt, ls, sym⟩ := V
  obtain ⟨tk, ks, la, lc, rfl, htk, hT, hks, hTs, hrow0⟩ := hv.is
  dsimp only at *
  have hrow : RowQ base w la ls.length lc ks := by
    rcases hrow0 with ⟨h1, h2, h3⟩ | h
    · exact .inl ⟨by rw [h1]; rfl, h2, h3⟩
    · exact .inr h
  have hkl : ks.length = 2 * ls.length := by
    have := congrArg List.length hks
    rw [List.length_map, flat_len] at this
    exact this
  obtain ⟨n, hnn⟩ : ∃ n, ls.length = n := ⟨_, rfl⟩
  rw [hnn] at hrow hkl hn ⊢
  obtain ⟨b1, b2, hb0⟩ := two_new w (wayC act bv tk.x tk.a (lenF tk.l) tk.c la n lc sym) 36 zWay 36
  have HC := hid fun (x : ByteArray × Int) (l : Fo) (a : Option Addr) (c : Nat) (W : World) (hW : Below wt.heap.size wt W) (h : TmAt wt x a c l) => clone_any x l a c W (h.below hW)
  have HT := hid hT; have HTS := hid hTs; have HROW := hid hrow; have HW := hid hw; have HKS := hid hks; have HTK := hid htk; have HKL := hid hkl; have HNN := hid hnn
  have hb0w := hw.trans (hb0.mono hw.size)
  have HB0 := hid hb0; have HB0W := hid hb0w; have HX := hid b1; have HY := hid b2
  have hsz : Hid (((w.alloc (.cells (wayC act bv tk.x tk.a (lenF tk.l) tk.c la n lc sym) 36)).alloc (.cells zWay 36)).heap.size = w.heap.size + 2) := hid (by simp)
  clear hv hT hTs hrow hrow0 hw hks htk hkl hnn hb0 b1 b2 hb0w
  unfold wayC at *
  go_enter Try.func20, Try.ntmps20
  go_wp2_with (go_at_call 39; refine (HC.out tk.x tk.l tk.a tk.c _ HB0W.out HT.out).mono ?_; rintro e w1 ⟨a', c', rfl, hs1, hb1, hzz⟩; clear hzz; have HS1 : Hid (SepTm w1 (fun q => w.heap.size + 2 ≤ q) tk.x a' c' tk.l) := hid (hs1.mono (fun q hq => by have := hsz.out; unfold wayC at this; omega)); have HB1 := hid (HB0.out.trans (hb1.mono HB0.out.size)); have X1 := HX.out.below hb1; have HX1 := hid X1; have Y1 := HY.out.below hb1; have HY1 := hid Y1; have HSZ1 : Hid (w.heap.size + 2 ≤ w1.heap.size) := hid (by have := hb1.size; have := hsz.out; unfold wayC at this; omega); have y0 := X1.c 0; have y1 := X1.c 1; have y2 := X1.c 2; have y3 := X1.c 3; have y4 := X1.c 4; have y5 := X1.c 5; have y6 := X1.c 6; have g2 := X1.f 2; have g3 := X1.f 3; have g4 := X1.f 4; clear hs1 hb1 X1 Y1)
  have C0 := hid (cl_start HW.out hbw HB1.out HSZ1.out HX1.out HY1.out HROW.out HS1.out)
  generalize ((w1.setCell ⟨w.heap.size, 2, none⟩ (.string tk.x.1)).setCell ⟨w.heap.size, 3, none⟩ (.int .i64 tk.x.2)).setCell ⟨w.heap.size, 4, none⟩ (.slice a' (lenF tk.l) c') = w2 at C0 ⊢
  clear y0 y1 y2 y3 y4 y5 y6 g2 g3 g4 HX1 HY1 HB1 HSZ1 HS1 HX HY HB0 HB0W hsz
  have HWS : Hid (wt.heap.size ≤ w.heap.size) := hid HW.out.size
  have HRG : Hid (∀ q, la = some ⟨q, 0, none⟩ → q < w.heap.size) := hid (fun q hq => by
    rcases HROW.out with ⟨_, h, _⟩ | ⟨g, h1, _, _, h4⟩
    · rw [h] at hq; cases hq
    · rw [h1] at hq; cases hq; exact h4.lt)
  go_loopw [14] (fun i wr => ∃ (j : Nat) (ds : List Kv), j ≤ n ∧ i = .int .i64 j ∧ ClSt base wt w act bv sym la n lc ks ⟨tk.x, tk.l, a', c'⟩ j ds wr) (fun i _ => n - (intOf i).toNat)
  case atStart => exact ⟨0, [], Nat.zero_le _, rfl, C0.out⟩
  case round =>
    obtain ⟨j, ds, hj, rfl, hc⟩ := hrel
    have HCL := hid hc
    clear C0
    by_cases hlt : j < n
    · obtain ⟨g, hgl, hgb, hgc, hge⟩ : ∃ g, la = some ⟨g, 0, none⟩ ∧ base ≤ g ∧ lc = n ∧ EqRow wr g n (ds ++ ks.drop (2 * j)) := by
        rcases hc.row with h | h
        · omega
        · exact h
      subst hgl hgc
      obtain ⟨k1, k2, hd⟩ : ∃ k1 k2, ks.drop (2 * j) = k1 :: k2 :: ks.drop (2 * (j + 1)) := ⟨ks[2 * j]'(by have := HKL.out; omega), ks[2 * j + 1]'(by have := HKL.out; omega), by
        rw [List.drop_eq_getElem_cons (by have := HKL.out; omega), List.drop_eq_getElem_cons (by have := HKL.out; omega)]; rfl⟩
      have hm1 : k1 ∈ ks := List.mem_of_mem_drop (by rw [hd]; simp)
      have hm2 : k2 ∈ ks := List.mem_of_mem_drop (by rw [hd]; simp)
      have HD := hid hd
      rw [hd] at hge
      have p0 : wr.cell? ⟨g, j * 6, none⟩ = some (.string k1.x.1) := hge.at (mid_cell _ _ _ _ j 0 hc.len)
      have p1 : wr.cell? ⟨g, j * 6 + 1, none⟩ = some (.int .i64 k1.x.2) := hge.at (mid_cell _ _ _ _ j 1 hc.len)
      have p2 : wr.cell? ⟨g, j * 6 + 2, none⟩ = some (.slice k1.a (lenF k1.l) k1.c) := hge.at (mid_cell _ _ _ _ j 2 hc.len)
      have p3 : wr.cell? ⟨g, j * 6 + 3, none⟩ = some (.string k2.x.1) := hge.at (mid_cell _ _ _ _ j 3 hc.len)
      have p4 : wr.cell? ⟨g, j * 6 + 4, none⟩ = some (.int .i64 k2.x.2) := hge.at (mid_cell _ _ _ _ j 4 hc.len)
      have p5 : wr.cell? ⟨g, j * 6 + 5, none⟩ = some (.slice k2.a (lenF k2.l) k2.c) := hge.at (mid_cell _ _ _ _ j 5 hc.len)
      obtain ⟨⟨x1n, x1s⟩, l1, a1, c1⟩ := k1
      obtain ⟨⟨x2n, x2s⟩, l2, a2, c2⟩ := k2
      dsimp only at p0 p1 p2 p3 p4 p5
      have z5 : wr.cell? ⟨w.heap.size, 5, none⟩ = some (.slice (some ⟨g, 0, none⟩) lc lc) := hc.b.c 5
      have HA1 := hid (HTS.out _ hm1); have HA2 := hid (HTS.out _ hm2)
      have HGE := hid hge
      have hk0 : (0 : Int) ≤ (j : Int) := by omega
      have hkn : (j : Int) < (lc : Int) := by omega
      obtain ⟨E, hE⟩ : ∃ E, wr.alloc (.cells #[.string x1n, .int .i64 x1s, .slice a1 (lenF l1) c1, .string x2n, .int .i64 x2s, .slice a2 (lenF l2) c2] 28) = E := ⟨_, rfl⟩
      have hbE : Below wr.heap.size wr E := by rw [← hE]; exact alloc_below0 wr _
      have bE : Box E wr.heap.size 28 #[.string x1n, .int .i64 x1s, .slice a1 (lenF l1) c1, .string x2n, .int .i64 x2s, .slice a2 (lenF l2) c2] := by rw [← hE]; exact Box.new wr 28 _
      have CE := hid (HCL.out.below hbE hbw (by have := HCL.out.big; have := HWS.out; omega))
      have HGL : Hid (g < wr.heap.size) := hid hge.lt
      have HGN : Hid (g < w.heap.size) := hid (HRG.out g rfl)
      have GE := hid (hge.below hbE)
      have HBE := hid hbE; have BE := hid bE
      have hS0 : E.cell? ⟨w.heap.size, 5, none⟩ = some (.slice (some ⟨g, 0, none⟩) lc lc) ∧ E.cell? ⟨wr.heap.size, 0, none⟩ = some (.string x1n) ∧ E.cell? ⟨wr.heap.size, 1, none⟩ = some (.int .i64 x1s) ∧ E.cell? ⟨wr.heap.size, 2, none⟩ = some (.slice a1 (lenF l1) c1) ∧ E.cell? ⟨wr.heap.size, 3, none⟩ = some (.string x2n) ∧ E.cell? ⟨wr.heap.size, 4, none⟩ = some (.int .i64 x2s) ∧ E.cell? ⟨wr.heap.size, 5, none⟩ = some (.slice a2 (lenF l2) c2) :=
        ⟨below_cell hbE _ _ z5, bE.c 0, bE.c 1, bE.c 2, bE.c 3, bE.c 4, bE.c 5⟩
      have HS0 := hid hS0
      have HSB : Hid (∀ W, Below E.heap.size E W → W.cell? ⟨w.heap.size, 5, none⟩ = some (.slice (some ⟨g, 0, none⟩) lc lc) ∧ W.cell? ⟨wr.heap.size, 0, none⟩ = some (.string x1n) ∧ W.cell? ⟨wr.heap.size, 1, none⟩ = some (.int .i64 x1s) ∧ W.cell? ⟨wr.heap.size, 2, none⟩ = some (.slice a1 (lenF l1) c1) ∧ W.cell? ⟨wr.heap.size, 3, none⟩ = some (.string x2n) ∧ W.cell? ⟨wr.heap.size, 4, none⟩ = some (.int .i64 x2s) ∧ W.cell? ⟨wr.heap.size, 5, none⟩ = some (.slice a2 (lenF l2) c2)) := hid (fun W hW => by
        obtain ⟨h0, h1, h2, h3, h4, h5, h6⟩ := HS0.out
        exact ⟨below_cell hW _ _ h0, below_cell hW _ _ h1, below_cell hW _ _ h2, below_cell hW _ _ h3, below_cell hW _ _ h4, below_cell hW _ _ h5, below_cell hW _ _ h6⟩)
      have H1 := hid fun (W : World) (hW : Below E.heap.size E W) => HC.out (x1n, x1s) l1 a1 c1 W (CE.out.old.trans (hW.mono (by have := CE.out.big; have := HWS.out; omega))) HA1.out
      have H2 := hid fun (W : World) (hW : Below E.heap.size E W) => HC.out (x2n, x2s) l2 a2 c2 W (CE.out.old.trans (hW.mono (by have := CE.out.big; have := HWS.out; omega))) HA2.out
      clear hc hd hm1 hm2 hge hbE bE hS0
      go_upto_region 5 with fail

      clear hE p0 p1 p2 p3 p4 p5 z5
      have HSB2 : Hid (∀ W, Below E.heap.size E W → ∀ k1 k2 : Kv, (set6 W g (j * 6) k1 k2).cell? ⟨w.heap.size, 5, none⟩ = some (.slice (some ⟨g, 0, none⟩) lc lc) ∧ (set6 W g (j * 6) k1 k2).cell? ⟨wr.heap.size, 0, none⟩ = some (.string x1n) ∧ (set6 W g (j * 6) k1 k2).cell? ⟨wr.heap.size, 1, none⟩ = some (.int .i64 x1s) ∧ (set6 W g (j * 6) k1 k2).cell? ⟨wr.heap.size, 2, none⟩ = some (.slice a1 (lenF l1) c1) ∧ (set6 W g (j * 6) k1 k2).cell? ⟨wr.heap.size, 3, none⟩ = some (.string x2n) ∧ (set6 W g (j * 6) k1 k2).cell? ⟨wr.heap.size, 4, none⟩ = some (.int .i64 x2s) ∧ (set6 W g (j * 6) k1 k2).cell? ⟨wr.heap.size, 5, none⟩ = some (.slice a2 (lenF l2) c2)) := hid (fun W hW k1 k2 => by
        obtain ⟨h0, h1, h2, h3, h4, h5, h6⟩ := HSB.out W hW
        have n1 : w.heap.size ≠ g := by have := HGN.out; omega
        have n2 : wr.heap.size ≠ g := by have := HGL.out; omega
        rw [set6_cell n1, set6_cell n2, set6_cell n2, set6_cell n2, set6_cell n2, set6_cell n2, set6_cell n2]
        exact ⟨h0, h1, h2, h3, h4, h5, h6⟩)
      have HNOW := hid (HSB.out E.drew (Below.refl E.heap.size E).drew)
      go_region_held3 (fun w' => w'.cell? ⟨w.heap.size, 5, none⟩ = some (.slice (some ⟨g, 0, none⟩) lc lc) ∧ w'.cell? ⟨wr.heap.size, 0, none⟩ = some (.string x1n) ∧ w'.cell? ⟨wr.heap.size, 1, none⟩ = some (.int .i64 x1s) ∧ w'.cell? ⟨wr.heap.size, 2, none⟩ = some (.slice a1 (lenF l1) c1) ∧ w'.cell? ⟨wr.heap.size, 3, none⟩ = some (.string x2n) ∧ w'.cell? ⟨wr.heap.size, 4, none⟩ = some (.int .i64 x2s) ∧ w'.cell? ⟨wr.heap.size, 5, none⟩ = some (.slice a2 (lenF l2) c2)) ((first
        | (with_reducible exact HNOW.out)
        | (with_reducible exact HS0.out)
        | exact HSS.out
        | fail)) ((first
        | (go_at_call 39; (with_reducible refine Calls.mono (H2.out _ HB1.out) ?_); rintro e v2 ⟨a4, c4, rfl, hs2, hb2, hzz⟩; clear hzz; have HS2 := hid hs2; have HB12 := hid hb2; have HB2 : Hid (Below E.heap.size E v2) := hid (HB1.out.trans (hb2.mono HB1.out.size)); have GE2 := GE.out.below HB2.out; have f0 := GE2.frozen (j * 6); have f1 := GE2.frozen (j * 6 + 1); have f2 := GE2.frozen (j * 6 + 2); have f3 := GE2.frozen (j * 6 + 3); have f4 := GE2.frozen (j * 6 + 4); have f5 := GE2.frozen (j * 6 + 5); obtain ⟨t0, y0⟩ := GE2.cell (i := j * 6) (by omega); obtain ⟨t1, y1⟩ := GE2.cell (i := j * 6 + 1) (by omega); obtain ⟨t2, y2⟩ := GE2.cell (i := j * 6 + 2) (by omega); obtain ⟨t3, y3⟩ := GE2.cell (i := j * 6 + 3) (by omega); obtain ⟨t4, y4⟩ := GE2.cell (i := j * 6 + 4) (by omega); obtain ⟨t5, y5⟩ := GE2.cell (i := j * 6 + 5) (by omega); have HGE2 := hid GE2; clear HNOW; have HNOW := hid (HSB.out v2 HB2.out); have HSS := hid (HSB2.out v2 HB2.out ⟨(x1n, x1s), l1, a3, c3⟩ ⟨(x2n, x2s), l2, a4, c4⟩); clear hs2 hb2 GE2)
        | (go_at_call 39; (with_reducible refine Calls.mono (H1.out _ (Below.refl _ E).drew) ?_); rintro e v1 ⟨a3, c3, rfl, hs1, hb1, hzz⟩; clear hzz; have HS1 := hid hs1; have HB1 : Hid (Below E.heap.size E v1) := hid (((Below.refl _ E).drew).trans hb1); have HNOW := hid (HSB.out v1 HB1.out); clear hs1 hb1)
        | fail))
      all_goals
        have HNX := hid (cl_step (k1 := ⟨(x1n, x1s), l1, a3, c3⟩) (k2 := ⟨(x2n, x2s), l2, a4, c4⟩) CE.out hbw hbs hgb HGN.out hlt GE.out HD.out rfl rfl HB1.out HS1.out HB12.out HS2.out)
        clear HSS HNOW y0 y1 y2 y3 y4 y5 f0 f1 f2 f3 f4 f5
        go_wp2_with fail
        go_roundw
        case rel => exact ⟨j + 1, ds ++ [(⟨(x1n, x1s), l1, a3, c3⟩ : Kv), ⟨(x2n, x2s), l2, a4, c4⟩], by omega, by go_num, HNX.out⟩
        case measure => simp [intOf]; omega
    · have e1 : j = n := by omega
      subst e1
      have z0 := hc.b.c 0; have z1 := hc.b.c 1; have z2 := hc.b.c 2; have z3 := hc.b.c 3; have z4 := hc.b.c 4; have z5 := hc.b.c 5; have z6 := hc.b.c 6
      have r0 := hc.z.c 0; have r1 := hc.z.c 1; have r2 := hc.z.c 2; have r3 := hc.z.c 3; have r4 := hc.z.c 4; have r5 := hc.z.c 5; have r6 := hc.z.c 6
      have g0 := hc.z.f 0; have g1 := hc.z.f 1; have g2 := hc.z.f 2; have g3 := hc.z.f 3; have g4 := hc.z.f 4; have g5 := hc.z.f 5; have g6 := hc.z.f 6
      unfold wayC at z0 z1 z2 z3 z4 z5 z6
      clear hc
      go_wp2_with fail
      refine bodyPost_ret (results_cell_row rfl _ _ (w.heap.size + 1) 36 (wayC act bv tk.x a' (lenF tk.l) c' la j lc sym) (0, 0) _ rfl (box7_all HCL.out.z _ _ _ _ _ _ _) Try.underlying36 rfl Try.size36) rfl ?_
      exact cl_end HCL.out hbw HKL.out HKS.out HTK.out HNN.out HRG.out
end Go.Proofs.Ytfnfbljijkjkjaa
/- One of the program. -/
namespace Go.Proofs.Ytfnfbljijkjkjaa
open Go.RowKit Go.Deep

theorem sideP_len (l m : Fo) : (sideP l m).ls.length ≤ lenF l := by
  unfold sideP
  split
  · show ((kidsL l).zip (kidsL m)).length ≤ _
    rw [List.length_zip, kids_len]; omega
  · simp [actW]
theorem lookP_len (sg : List Sym) (l r : Tn) : (lookP sg l r).ls.length ≤ lenF l.2 := by
  unfold lookP
  split
  · split
    · rw [ofVars_none]; simp
    · rw [ofVar_none]; simp
  · split
    · rw [ofVar_none]; simp
    · split
      · split
        · exact sideP_len _ _
        · simp
      · simp [actW]
theorem OneAt.far {base : Nat} {w : World} {v : Value} {W : Wy} (h : OneAt base w v W) {w' : World} (hk : ∀ q, base ≤ q → q < w.heap.size → w'.heap[q]? = w.heap[q]?) (hs : w.heap.size ≤ w'.heap.size) : OneAt base w' v W := by
  obtain ⟨tk, ks, la, lc, h1, h2, h3, h4, h5⟩ := h.is
  refine ⟨tk, ks, la, lc, h1, h2, h3, ?_, (h5.keep (fun q hq hlt => hk q hq.1 hlt)).mono (fun q hq => ⟨hq.1, Nat.lt_of_lt_of_le hq.2.1 hs, hq.2.2⟩)⟩
  rcases h4 with h4 | ⟨g, g1, g2, g3, g4⟩
  · exact .inl h4
  · exact .inr ⟨g, g1, g2, g3, g4.keep (hk g g2 g4.lt)⟩
theorem OneAt.below {base : Nat} {w : World} {v : Value} {W : Wy} (h : OneAt base w v W) {w' : World} (hb : Below w.heap.size w w') : OneAt base w' v W := h.far (fun q _ hq => hb.block q hq) hb.size
theorem OneAt.mono {base base' : Nat} {w : World} {v : Value} {W : Wy} (h : OneAt base w v W) (hb : base' ≤ base) : OneAt base' w v W := by
  obtain ⟨tk, ks, la, lc, h1, h2, h3, h4, h5⟩ := h.is
  refine ⟨tk, ks, la, lc, h1, h2, h3, ?_, h5.mono (fun q hq => ⟨Nat.le_trans hb hq.1, hq.2⟩)⟩
  rcases h4 with h4 | ⟨g, g1, g2, g3, g4⟩
  · exact .inl h4
  · exact .inr ⟨g, g1, Nat.le_trans hb g2, g3, g4⟩
/-- The answer is stored. -/
theorem one_end {w W : World} {x0 x1 x2 x3 x4 x5 x6 : Value} {V : Wy} (hb : Below w.heap.size w W) (hv : OneAt (w.heap.size + 2) W (.agg #[x0, x1, x2, x3, x4, x5, x6]) V) :
    (∃ v, Ending.returned (Value.agg #[x0, x1, x2, x3, x4, x5, x6]) = .returned v ∧ OneAt w.heap.size (((((((W.setCell ⟨w.heap.size + 1, 0, none⟩ x0).setCell ⟨w.heap.size + 1, 1, none⟩ x1).setCell ⟨w.heap.size + 1, 2, none⟩ x2).setCell ⟨w.heap.size + 1, 3, none⟩ x3).setCell ⟨w.heap.size + 1, 4, none⟩ x4).setCell ⟨w.heap.size + 1, 5, none⟩ x5).setCell ⟨w.heap.size + 1, 6, none⟩ x6) v V) ∧
    Below w.heap.size w (((((((W.setCell ⟨w.heap.size + 1, 0, none⟩ x0).setCell ⟨w.heap.size + 1, 1, none⟩ x1).setCell ⟨w.heap.size + 1, 2, none⟩ x2).setCell ⟨w.heap.size + 1, 3, none⟩ x3).setCell ⟨w.heap.size + 1, 4, none⟩ x4).setCell ⟨w.heap.size + 1, 5, none⟩ x5).setCell ⟨w.heap.size + 1, 6, none⟩ x6) :=
  ⟨⟨_, rfl, (hv.far (fun q hq _ => sets7_far (by omega) _ _ _ _ _ _ _) (by simp)).mono (by omega)⟩, sets7_below hb (by omega) _ _ _ _ _ _ _⟩

set_option maxRecDepth 100000 in
set_option maxHeartbeats 4000000 in
theorem one_any (S : Option Addr) (n cap : Nat) (sg : List Sym) (s t : Tn) (a b : Option Addr) (c d : Nat) (w : World) (hG : SigAt w S n sg) (hS : TmAt w s.1 a c s.2) (hT : TmAt w t.1 b d t.2) (hM : nodesF s.2 ≤ 1048576) (hN : nodesF t.2 ≤ 1048576) :
    Calls Try.prog 8 #[.slice S n cap, .agg #[.string s.1.1, .int .i64 s.1.2, .slice a (lenF s.2) c, .string t.1.1, .int .i64 t.1.2, .slice b (lenF t.2) d]] w fun e w' => (∃ v, e = .returned v ∧ OneAt w.heap.size w' v (oneP sg s t)) ∧ Below w.heap.size w w' := by
  have hlen := lookP_len sg s t
  have hln := len_nodes s.2
  obtain ⟨⟨xn, xs⟩, l⟩ := s
  obtain ⟨⟨yn, ys⟩, m⟩ := t
  dsimp only at *
  obtain ⟨b1, b2, hb0⟩ := two_new w #[.string xn, .int .i64 xs, .slice a (lenF l) c, .string yn, .int .i64 ys, .slice b (lenF m) d] 28 zWay 36
  have H19 := hid fun (W : World) (hW : Below w.heap.size w W) => tsame_any (xn, xs) (yn, ys) l m a b c d W (hS.below hW) (hT.below hW)
  have H21 := hid fun (W : World) (hW : Below w.heap.size w W) => look_any S n cap sg ((xn, xs), l) ((yn, ys), m) a b c d w W (hG.below hW) hS hT hW hM hN
  have HX := hid b1; have HY := hid b2; have HB0 := hid hb0
  have hsz : Hid (((w.alloc (.cells #[.string xn, .int .i64 xs, .slice a (lenF l) c, .string yn, .int .i64 ys, .slice b (lenF m) d] 28)).alloc (.cells zWay 36)).heap.size = w.heap.size + 2) := hid (by simp)
  obtain ⟨cv, hcv⟩ : ∃ cv, (cmpN ((xn, xs), l) ((yn, ys), m) == 0) = cv := ⟨_, rfl⟩
  obtain ⟨V, hV⟩ : ∃ V, oneP sg ((xn, xs), l) ((yn, ys), m) = V := ⟨_, rfl⟩
  rw [hcv] at H19
  rw [hV]
  have HV := hid hV; have HCV := hid hcv
  clear hG hS hT b1 b2 hb0 hcv hV
  cases cv
  · have HVL : Hid (V = lookP sg ((xn, xs), l) ((yn, ys), m)) := hid (by
      rw [← HV.out]; unfold oneP; rw [if_neg (by have := HCV.out; simpa using this)])
    go_enter Try.func8, Try.ntmps8
    go_wp2_with (first
      | (go_at_call 19; refine (H19.out _ HB0.out).mono ?_; rintro e w1 ⟨rfl, hb1⟩; have HB1 := hid (HB0.out.trans (hb1.mono HB0.out.size)); have X1 := HX.out.below hb1; have HY1 := hid (HY.out.below hb1); have HZ1 : Hid (w.heap.size + 2 ≤ w1.heap.size) := hid (by have := hb1.size; have := hsz.out; omega); have z0 := X1.c 0; have z1 := X1.c 1; have z2 := X1.c 2; have z3 := X1.c 3; have z4 := X1.c 4; have z5 := X1.c 5; clear hb1 X1)
      | (go_at_call 21; refine (H21.out _ HB1.out).mono ?_; rintro e w2 ⟨⟨v, rfl, hv⟩, hb2⟩; have HB12 := hid hb2; have HB2 := hid (HB1.out.trans (hb2.mono HB1.out.size)); have HY2 := hid (HY1.out.below hb2); have HLK := hid hv; have HZ2 : Hid (w1.heap.size ≤ w2.heap.size) := hid hb2.size; clear hb2 hv)
      | (go_at_call 20; refine (cloneWay_any w1.heap.size _ v w w2 HLK.out HB2.out HB1.out.size HZ2.out (by omega)).mono ?_; rintro e w3 ⟨⟨v3, rfl, ho⟩, hb3⟩; have HB3 : Hid (Below w.heap.size w w3) := hid (HB2.out.trans (hb3.mono HB1.out.size)); have Y3 : Box w3 (w.heap.size + 1) 36 zWay := (hb3.block _ (by have := HZ1.out; omega)).trans HY2.out; have HY3 := hid Y3; have HO : Hid (OneAt (w.heap.size + 2) w3 v3 V) := hid (by rw [HVL.out]; exact ho.mono HZ1.out); obtain ⟨tk, ks, la, lc, rfl, hrest⟩ := HO.out.is; have r0 := Y3.c 0; have r1 := Y3.c 1; have r2 := Y3.c 2; have r3 := Y3.c 3; have r4 := Y3.c 4; have r5 := Y3.c 5; have r6 := Y3.c 6; have g0 := Y3.f 0; have g1 := Y3.f 1; have g2 := Y3.f 2; have g3 := Y3.f 3; have g4 := Y3.f 4; have g5 := Y3.f 5; have g6 := Y3.f 6; clear hb3 Y3 ho hrest z0 z1 z2 z3 z4 z5; unfold wayC))
    refine bodyPost_ret (results_cell_row rfl _ _ (w.heap.size + 1) 36 (wayC _ _ _ _ _ _ _ _ _ _) (0, 0) _ rfl (box7_all HY3.out _ _ _ _ _ _ _) Try.underlying36 rfl Try.size36) rfl ?_
    exact one_end HB3.out HO.out
  · have HVL : Hid (V = actW 1) := hid (by
      rw [← HV.out]; unfold oneP; rw [if_pos (by have := HCV.out; simpa using this)])
    go_enter Try.func8, Try.ntmps8
    go_wp2_with (go_at_call 19; refine (H19.out _ HB0.out).mono ?_; rintro e w1 ⟨rfl, hb1⟩; have HB1 := hid (HB0.out.trans (hb1.mono HB0.out.size)); have Y1 := HY.out.below hb1; have HY1 := hid Y1; have r0 := Y1.c 0; have r1 := Y1.c 1; have r2 := Y1.c 2; have r3 := Y1.c 3; have r4 := Y1.c 4; have r5 := Y1.c 5; have r6 := Y1.c 6; have g0 := Y1.f 0; have g1 := Y1.f 1; have g2 := Y1.f 2; have g3 := Y1.f 3; have g4 := Y1.f 4; have g5 := Y1.f 5; have g6 := Y1.f 6; clear hb1 Y1)
    refine bodyPost_ret (results_cell_row rfl _ _ (w.heap.size + 1) 36 (wayC 1 noS (noS, 0) none 0 0 none 0 0 0) (0, 0) _ rfl (box7_all HY1.out _ _ _ _ _ _ _) Try.underlying36 rfl Try.size36) rfl ?_
    exact one_end HB1.out (by
      rw [HVL.out]
      exact ⟨⟨(noS, 0), .nil, none, 0⟩, [], none, 0, rfl, rfl, rfl, .inl ⟨rfl, rfl, rfl⟩, ⟨fun _ => False, fun _ => False, fun _ h => h.elim, fun _ h => h.elim, ⟨⟨by decide, by simp [lenF], by simp, by simp [lenF]⟩, .inl rfl⟩, trivial⟩⟩)
end Go.Proofs.Ytfnfbljijkjkjaa
/- Ways that lie in memory, and what the statements' same says of two that are alike. -/
namespace Go.Proofs.Ytfnfbljijkjkjaa
open Go.RowKit Go.Deep

/-- The terms' cells lie in this block, from its head on. -/
def CellsAt (w : World) (g : Nat) (ks : List Kv) : Prop := ∀ i u, (kvCells ks)[i]? = some u → w.cell? ⟨g, i, none⟩ = some u
/-- A way in memory, wherever it lies. -/
structure WyAt (w : World) (v : Value) (V : Wy) : Prop where
  is : ∃ a c ks la lc, v = .agg (wayC V.act V.bv V.t.1 a (lenF V.t.2) c la V.ls.length lc V.sym) ∧ TmAt w V.t.1 a c V.t.2 ∧ ks.map Kv.tn = flatL V.ls ∧ (∀ k ∈ ks, TmAt w k.x k.a k.c k.l) ∧ (V.ls.length = 0 ∨ ∃ g, la = some ⟨g, 0, none⟩ ∧ CellsAt w g ks) ∧ V.ls.length ≤ lc
theorem CellsAt.below {w w' : World} {g : Nat} {ks : List Kv} (h : CellsAt w g ks) (hb : Below w.heap.size w w') : CellsAt w' g ks := fun i u hu => below_cell hb _ _ (h i u hu)
theorem WyAt.below {w w' : World} {v : Value} {V : Wy} (h : WyAt w v V) (hb : Below w.heap.size w w') : WyAt w' v V := by
  obtain ⟨a, c, ks, la, lc, h1, h2, h3, h4, h5, h6⟩ := h.is
  refine ⟨a, c, ks, la, lc, h1, h2.below hb, h3, fun k hk => (h4 k hk).below hb, ?_, h6⟩
  rcases h5 with h5 | ⟨g, h7, h8⟩
  · exact .inl h5
  · exact .inr ⟨g, h7, h8.below hb⟩
theorem SepL.tms {w : World} : ∀ {ks : List Kv} {A : Nat → Prop}, SepL w ks A → ∀ k ∈ ks, TmAt w k.x k.a k.c k.l
  | [], _, _, k, hk => absurd hk (by simp)
  | _ :: _, _, ⟨_, _, _, _, h3, h4⟩, k, hk => by
    rcases List.mem_cons.1 hk with rfl | hk
    · exact h3.tm
    · exact SepL.tms h4 k hk
theorem OneAt.wy {base : Nat} {w : World} {v : Value} {V : Wy} (h : OneAt base w v V) : WyAt w v V := by
  obtain ⟨tk, ks, la, lc, h1, h2, h3, h4, h5⟩ := h.is
  have ht := h5.tms
  subst h1
  obtain ⟨act, bv, t, ls, sym⟩ := V
  dsimp only at *
  subst h2
  refine ⟨tk.a, tk.c, ks, la, lc, rfl, ht tk (by simp), h3, fun k hk => ht k (by simp [hk]), ?_, ?_⟩
  · rcases h4 with h4 | ⟨g, g1, g2, g3, g4⟩
    · exact .inl h4.1
    · exact .inr ⟨g, g1, fun i u hu => g4.at hu⟩
  · rcases h4 with h4 | ⟨g, g1, g2, g3, g4⟩
    · show ls.length ≤ lc; omega
    · exact Nat.le_of_eq g3.symm

/-- The cells of an equation, and its two terms. -/
structure EqAt (w : World) (g j : Nat) (p q : Tn) (a b : Option Addr) (c d : Nat) : Prop where
  c0 : w.cell? ⟨g, j * 6, none⟩ = some (.string p.1.1)
  c1 : w.cell? ⟨g, j * 6 + 1, none⟩ = some (.int .i64 p.1.2)
  c2 : w.cell? ⟨g, j * 6 + 2, none⟩ = some (.slice a (lenF p.2) c)
  c3 : w.cell? ⟨g, j * 6 + 3, none⟩ = some (.string q.1.1)
  c4 : w.cell? ⟨g, j * 6 + 4, none⟩ = some (.int .i64 q.1.2)
  c5 : w.cell? ⟨g, j * 6 + 5, none⟩ = some (.slice b (lenF q.2) d)
  l : TmAt w p.1 a c p.2
  r : TmAt w q.1 b d q.2
theorem EqAt.below {w w' : World} {g j : Nat} {p q : Tn} {a b : Option Addr} {c d : Nat} (h : EqAt w g j p q a b c d) (hb : Below w.heap.size w w') : EqAt w' g j p q a b c d :=
  ⟨below_cell hb _ _ h.c0, below_cell hb _ _ h.c1, below_cell hb _ _ h.c2, below_cell hb _ _ h.c3, below_cell hb _ _ h.c4, below_cell hb _ _ h.c5, h.l.below hb, h.r.below hb⟩
theorem flat_at : ∀ (ls : List (Tn × Tn)) (j : Nat) (h : j < ls.length), (flatL ls)[2 * j]? = some ls[j].1 ∧ (flatL ls)[2 * j + 1]? = some ls[j].2
  | [], j, h => absurd h (by simp)
  | p :: r, 0, _ => ⟨rfl, rfl⟩
  | p :: r, j + 1, h => by
    have ih := flat_at r j (by simpa using h)
    have e : flatL (p :: r) = p.1 :: p.2 :: flatL r := rfl
    rw [e, show 2 * (j + 1) = 2 * j + 1 + 1 by omega, show 2 * j + 1 + 1 + 1 = (2 * j + 1) + 1 + 1 by omega]
    simp only [List.getElem?_cons_succ, List.getElem_cons_succ]
    exact ih
theorem eq_at {w : World} {g : Nat} {ks : List Kv} {ls : List (Tn × Tn)} (hc : CellsAt w g ks) (hk : ks.map Kv.tn = flatL ls) (ht : ∀ k ∈ ks, TmAt w k.x k.a k.c k.l) {j : Nat} (hj : j < ls.length) : ∃ a b c d, EqAt w g j ls[j].1 ls[j].2 a b c d := by
  have hl : ks.length = 2 * ls.length := by
    have := congrArg List.length hk
    rwa [List.length_map, flat_len] at this
  obtain ⟨f1, f2⟩ := flat_at ls j hj
  rw [← hk, List.getElem?_map] at f1 f2
  rw [List.getElem?_eq_getElem (by omega), Option.map_some, Option.some.injEq] at f1 f2
  have a1 := kv_at ks (2 * j) (by omega)
  have a2 := kv_at ks (2 * j + 1) (by omega)
  rw [show 2 * j * 3 = j * 6 by omega] at a1
  rw [show (2 * j + 1) * 3 = j * 6 + 3 by omega] at a2
  have t1 := ht ks[2 * j] (List.getElem_mem _)
  have t2 := ht ks[2 * j + 1] (List.getElem_mem _)
  rw [← f1, ← f2]
  exact ⟨ks[2 * j].a, ks[2 * j + 1].a, ks[2 * j].c, ks[2 * j + 1].c, hc _ _ a1.1, hc _ _ a1.2.1, hc _ _ a1.2.2, hc _ _ a2.1, hc _ _ a2.2.1, hc _ _ a2.2.2, t1, t2⟩

set_option maxRecDepth 100000 in
set_option maxHeartbeats 4000000 in
theorem same_true (V : Wy) (v1 v2 : Value) (w : World) (h1 : WyAt w v1 V) (h2 : WyAt w v2 V) (hm : V.ls.length ≤ 1048576) :
    Calls Try.prog 11 #[v1, v2] w fun e w' => e = .returned (.bool true) ∧ Below w.heap.size w w' := by
  obtain ⟨act, bv, ⟨⟨tn, ts⟩, tl⟩, ls, sym⟩ := V
  obtain ⟨a, c, ks, la, lc, rfl, hT, hks, hTs, hrow, _⟩ := h1.is
  obtain ⟨b, d, js, lb, ld, rfl, hU, hjs, hUs, hrow2, _⟩ := h2.is
  dsimp only at *
  obtain ⟨n, hn⟩ : ∃ n, ls.length = n := ⟨_, rfl⟩
  obtain ⟨b1, b2, hb0⟩ := two_new w (wayC act bv (tn, ts) a (lenF tl) c la n lc sym) 36 (wayC act bv (tn, ts) b (lenF tl) d lb n ld sym) 36
  have HE := hid fun (W : World) (hW : Below w.heap.size w W) => exact_any (tn, ts) tl a b c d W (hT.below hW) (hU.below hW)
  have HEJ : Hid (∀ j (hj : j < n), ∃ g g' p q a1 b1 c1 d1 a2 b2 c2 d2, la = some ⟨g, 0, none⟩ ∧ lb = some ⟨g', 0, none⟩ ∧ EqAt w g j p q a1 b1 c1 d1 ∧ EqAt w g' j p q a2 b2 c2 d2) := hid (fun j hj => by
    rcases hrow with h0 | ⟨g, hg, hc⟩
    · omega
    · rcases hrow2 with h0 | ⟨g', hg', hc'⟩
      · omega
      · obtain ⟨a1, b1, c1, d1, e1⟩ := eq_at hc hks hTs (j := j) (by omega)
        obtain ⟨a2, b2, c2, d2, e2⟩ := eq_at hc' hjs hUs (j := j) (by omega)
        exact ⟨g, g', _, _, a1, b1, c1, d1, a2, b2, c2, d2, hg, hg', e1, e2⟩)
  rw [hn] at hm ⊢
  have HX := hid b1; have HY := hid b2; have HB0 := hid hb0
  have hbb : (bv.toList == bv.toList) = true := by simp
  have haa : (act != act) = false := by simp
  have hss : (sym != sym) = false := by simp
  have hnn : ((n : Int) != (n : Int)) = false := by simp
  clear h1 h2 hT hU hks hjs hTs hUs hrow hrow2 b1 b2 hb0 hn
  unfold wayC at *
  go_enter Try.func11, Try.ntmps11
  go_wp2_with (go_at_call 25; refine (HE.out _ HB0.out).mono ?_; rintro e w1 ⟨rfl, hb1⟩; have HB1 := hid (HB0.out.trans (hb1.mono HB0.out.size)); have HX1 := hid (HX.out.below hb1); have HY1 := hid (HY.out.below hb1); clear hb1)
  go_loopw [5] (fun i wr => ∃ j : Nat, j ≤ n ∧ i = .int .i64 j ∧ Below w.heap.size w wr ∧ Box wr w.heap.size 36 #[.int .i64 act, .string bv, .string tn, .int .i64 ts, .slice a (lenF tl) c, .slice la n lc, .int .i64 sym] ∧ Box wr (w.heap.size + 1) 36 #[.int .i64 act, .string bv, .string tn, .int .i64 ts, .slice b (lenF tl) d, .slice lb n ld, .int .i64 sym]) (fun i _ => n - (intOf i).toNat)
  case atStart => exact ⟨0, Nat.zero_le _, rfl, HB1.out, HX1.out, HY1.out⟩
  case round =>
    obtain ⟨j, hj, rfl, hb, hx, hy⟩ := hrel
    have HB := hid hb; have HXR := hid hx; have HYR := hid hy
    have x5 : wr.cell? ⟨w.heap.size, 5, none⟩ = some (.slice la n lc) := hx.c 5
    have y5 : wr.cell? ⟨w.heap.size + 1, 5, none⟩ = some (.slice lb n ld) := hy.c 5
    by_cases hlt : j < n
    · obtain ⟨g, g', ⟨⟨pn, ps⟩, pl⟩, ⟨⟨qn, qs⟩, ql⟩, a1, b1, c1, d1, a2, b2, c2, d2, rfl, rfl, e1, e2⟩ := HEJ.out j hlt
      have f1 := e1.below hb
      have f2 := e2.below hb
      have HF1 := hid f1; have HF2 := hid f2
      have HA := hid fun (W : World) (hW : Below wr.heap.size wr W) => exact_any (pn, ps) pl a1 a2 c1 c2 W (f1.l.below hW) (f2.l.below hW)
      have HC := hid fun (W : World) (hW : Below wr.heap.size wr W) => exact_any (qn, qs) ql b1 b2 d1 d2 W (f1.r.below hW) (f2.r.below hW)
      have hls := later_some wr
      have k0 := later_cell f1.c0; have k1 := later_cell f1.c1; have k2 := later_cell f1.c2; have k3 := later_cell f1.c3; have k4 := later_cell f1.c4; have k5 := later_cell f1.c5
      have m0 := later_cell f2.c0; have m1 := later_cell f2.c1; have m2 := later_cell f2.c2; have m3 := later_cell f2.c3; have m4 := later_cell f2.c4; have m5 := later_cell f2.c5
      have kx := later_cell x5; have ky := later_cell y5
      dsimp only at k0 k1 k2 k3 k4 k5 m0 m1 m2 m3 m4 m5
      have hk0 : (0 : Int) ≤ (j : Int) := by omega
      have hkn : (j : Int) < (n : Int) := by omega
      clear f1 f2 e1 e2 hb hx hy
      go_upto_region 6 with fail
      refine wp_region_later (by kernel_rfl) (by kernel_rfl) ?_
      repeat (go_big_quiet_step (first | (go_at_call 25; (with_reducible refine calls_later (HA.out _ ?_)); exact Later.below _) | fail))
      refine wpQuiet_nil ?_
      intro _ hw'
      obtain ⟨v2, hw''⟩ := hw'
      subst hw''
      have bl2 := v2.below
      have f1 := HF1.out.below bl2
      have f2 := HF2.out.below bl2
      have x6 := below_cell bl2 _ _ x5
      have y6 := below_cell bl2 _ _ y5
      have HXS := hid (HXR.out.below bl2); have HYS := hid (HYR.out.below bl2)
      have HBS := hid (HB.out.trans (bl2.mono HB.out.size))
      have HC2 := hid fun (W : World) (hW : Below v2.now.heap.size v2.now W) => HC.out W (bl2.trans (hW.mono bl2.size))
      clear k0 k1 k2 k3 k4 k5 m0 m1 m2 m3 m4 m5 kx ky x5 y5 hls HA HC HF1 HF2 HXR HYR HB bl2
      generalize v2.now = V2 at *
      clear v2
      have hls := later_some V2
      have k0 := later_cell f1.c0; have k1 := later_cell f1.c1; have k2 := later_cell f1.c2; have k3 := later_cell f1.c3; have k4 := later_cell f1.c4; have k5 := later_cell f1.c5
      have m0 := later_cell f2.c0; have m1 := later_cell f2.c1; have m2 := later_cell f2.c2; have m3 := later_cell f2.c3; have m4 := later_cell f2.c4; have m5 := later_cell f2.c5
      have kx := later_cell x6; have ky := later_cell y6
      dsimp only at k0 k1 k2 k3 k4 k5 m0 m1 m2 m3 m4 m5
      clear f1 f2 x6 y6
      go_upto_region 7 with fail
      refine wp_region_later (by kernel_rfl) (by kernel_rfl) ?_
      repeat (go_big_quiet_step (first | (go_at_call 25; (with_reducible refine calls_later (HC2.out _ ?_)); exact Later.below _) | fail))
      refine wpQuiet_nil ?_
      intro _ hw'
      obtain ⟨v3, hw''⟩ := hw'
      subst hw''
      have HXT := hid (HXS.out.below v3.below); have HYT := hid (HYS.out.below v3.below)
      have HBT := hid (HBS.out.trans (v3.below.mono HBS.out.size))
      clear k0 k1 k2 k3 k4 k5 m0 m1 m2 m3 m4 m5 kx ky hls
      go_wp2_with fail
      go_roundw
      case rel => exact ⟨j + 1, by omega, by go_num, HBT.out, HXT.out, HYT.out⟩
      case measure => simp [intOf]; omega
    · clear hb hx hy
      go_wp2_with fail
      go_ret
      exact ⟨rfl, HB.out⟩
end Go.Proofs.Ytfnfbljijkjkjaa
/- What the document's Plain makes of a signature. -/
namespace Go.Proofs.Ytfnfbljijkjkjaa
open Go.RowKit

def Sym.cells (x : Sym) : List Value := [.string x.name, .int .i64 x.kind, .int .i64 x.arity, .string x.unit]
def symCells (l : List Sym) : List Value := l.flatMap Sym.cells

theorem symCells_nil : symCells [] = [] := rfl
theorem symCells_cons (x : Sym) (l : List Sym) : symCells (x :: l) = .string x.name :: .int .i64 x.kind :: .int .i64 x.arity :: .string x.unit :: symCells l := rfl
theorem symCells_append (l m : List Sym) : symCells (l ++ m) = symCells l ++ symCells m := by simp [symCells]
theorem symCells_one (x : Sym) : symCells [x] = [.string x.name, .int .i64 x.kind, .int .i64 x.arity, .string x.unit] := rfl
theorem symCells_length : ∀ l : List Sym, (symCells l).length = l.length * 4
  | [] => rfl
  | x :: l => by rw [symCells_cons]; simp [symCells_length l]; omega
theorem symCells_oneCell (l : List Sym) : ∀ u ∈ symCells l, u.oneCell' = true := by
  intro u hu
  simp only [symCells, List.mem_flatMap, Sym.cells, List.mem_cons, List.not_mem_nil, or_false] at hu
  obtain ⟨x, _, h | h | h | h⟩ := hu <;> subst h <;> rfl
theorem symCells_at : ∀ (l : List Sym) (i : Nat) (h : i < l.length),
    (symCells l)[i * 4]? = some (.string l[i].name) ∧ (symCells l)[i * 4 + 1]? = some (.int .i64 l[i].kind) ∧ (symCells l)[i * 4 + 2]? = some (.int .i64 l[i].arity) ∧ (symCells l)[i * 4 + 3]? = some (.string l[i].unit)
  | [], i, h => absurd h (by simp)
  | x :: l, 0, h => by rw [symCells_cons]; simp
  | x :: l, i + 1, h => by
    have ih := symCells_at l i (by simpa using h)
    rw [symCells_cons]
    rw [show (i + 1) * 4 = i * 4 + 1 + 1 + 1 + 1 by omega, show i * 4 + 1 + 1 + 1 + 1 + 1 = (i * 4 + 1) + 1 + 1 + 1 + 1 by omega, show i * 4 + 1 + 1 + 1 + 1 + 2 = (i * 4 + 2) + 1 + 1 + 1 + 1 by omega, show i * 4 + 1 + 1 + 1 + 1 + 3 = (i * 4 + 3) + 1 + 1 + 1 + 1 by omega]
    simp only [List.getElem?_cons_succ, List.getElem_cons_succ]
    exact ih

/-- Where a signature lies, as one row of cells. -/
theorem news_of_syms {w : World} {b : Nat} : ∀ (l : List Sym) (off : Nat), (∀ i (h : i < l.length), SymAt w b (off + i * 4) l[i]) → ∀ j u, (symCells l)[j]? = some u → w.cell? ⟨b, off + j, none⟩ = some u
  | [], _, _, j, u, hu => by simp [symCells_nil] at hu
  | x :: l, off, h, j, u, hu => by
    have h0 := h 0 (by simp)
    simp only [Nat.zero_mul, Nat.add_zero, List.getElem_cons_zero] at h0
    rw [symCells_cons] at hu
    match j, hu with
    | 0, hu => simp at hu; subst hu; exact h0.name
    | 1, hu => simp at hu; subst hu; exact h0.kind
    | 2, hu => simp at hu; subst hu; exact h0.arity
    | 3, hu => simp at hu; subst hu; exact h0.unit
    | j + 4, hu =>
      simp only [List.getElem?_cons_succ] at hu
      have := news_of_syms l (off + 4) (fun i hi => by
        have := h (i + 1) (by simpa using hi)
        simp only [List.getElem_cons_succ] at this
        rw [show off + 4 + i * 4 = off + (i + 1) * 4 by omega]
        exact this) j u hu
      rw [show off + (j + 4) = off + 4 + j by omega]
      exact this

/-- A row that is known whole holds the signature. -/
theorem sigAt_of_row {w : World} {g n : Nat} {l : List Sym} {cur : Array Value} {e : TypeId} {fr : Nat × Nat} (hh : w.heap[g]? = some (.cells cur e fr)) (hn : n = l.length) (hm : n ≤ maxLen) (hc : cur.toList.take (n * 4) = symCells l) (hf : ∀ x ∈ l, x.Fits) :
    SigAt w (some ⟨g, 0, none⟩) n l := by
  refine ⟨hn, hm, fun i hi => ⟨g, 0, rfl, ?_⟩, hf⟩
  have hat := symCells_at l i hi
  have key : ∀ j, j < n * 4 → w.cell? ⟨g, 0 + j, none⟩ = (symCells l)[j]? := by
    intro j hj
    rw [Nat.zero_add, cell_of_row w g j cur e fr hh, ← hc, List.getElem?_take_of_lt hj]
    simp
  exact ⟨by rw [key _ (by omega)]; exact hat.1, by rw [Nat.add_assoc, key _ (by omega)]; exact hat.2.1, by rw [Nat.add_assoc, key _ (by omega)]; exact hat.2.2.1, by rw [Nat.add_assoc, key _ (by omega)]; exact hat.2.2.2⟩

theorem sigAt_of_owns {w : World} {base g n cap : Nat} {l : List Sym} (h : w.ownsRow base 57 4 (.slice (some ⟨g, 0, none⟩) n cap) n (symCells l)) (hm : n ≤ maxLen) (hf : ∀ x ∈ l, x.Fits) : SigAt w (some ⟨g, 0, none⟩) n l := by
  obtain ⟨hl, h⟩ := h
  rw [symCells_length] at hl
  rcases h with ⟨hv, _⟩ | ⟨g', cap', cur, hv, _, hh, hnc, _, hsz, hcur⟩
  · cases hv
  · simp only [Value.slice.injEq, Option.some.injEq, Addr.mk.injEq, and_true, true_and] at hv
    obtain ⟨rfl, rfl⟩ := hv
    exact sigAt_of_row hh (by omega) hm hcur hf

theorem Try.info57 : (Try.prog.info? 57).map (fun i => (i.zero, i.size, i.bytes)) = some (some (.agg #[.string ⟨#[]⟩, .int .i64 0, .int .i64 0, .string ⟨#[]⟩]), 4, 48) := by kernel_rfl

def plainS (x : Sym) : Sym := if x.kind = 3 then ⟨x.name, 2, x.arity, ⟨#[]⟩⟩ else x
theorem plainS_not {x : Sym} (h : x.kind ≠ 3) : plainS x = x := by simp [plainS, h]
theorem plainS_is {x : Sym} (h : x.kind = 3) : plainS x = ⟨x.name, 2, x.arity, ⟨#[]⟩⟩ := by simp [plainS, h]
theorem plainS_fits {x : Sym} (h : x.Fits) : (plainS x).Fits := by
  unfold plainS
  split
  · exact ⟨h.name, by show ByteArray.size ⟨#[]⟩ ≤ maxLen; decide⟩
  · exact h


theorem sym_news (w : World) (H : Nat) (hH : w.heap.size = H) (y : Sym) : ∀ j u, (symCells [y])[j]? = some u → (w.alloc (.cells #[.string y.name, .int .i64 y.kind, .int .i64 y.arity, .string y.unit] 57)).cell? ((⟨H, 0, none⟩ : Addr).add j) = some u := by
  subst hH
  exact World.news_of_block (cs := #[.string y.name, .int .i64 y.kind, .int .i64 y.arity, .string y.unit]) (t := 57) (fr := (0, 0)) (heap_alloc_new w _)
theorem sigAt_of_owns_any {w : World} {base n : Nat} {v : Value} {l : List Sym} (h : w.ownsRow base 57 4 v n (symCells l)) (hm : n ≤ maxLen) (hf : ∀ x ∈ l, x.Fits) : ∃ a cap, v = .slice a n cap ∧ SigAt w a n l := by
  rcases h.2 with ⟨hv, h0⟩ | ⟨g, cap, cur, hv, _⟩
  · have hl := h.1
    rw [symCells_length, h0] at hl
    have : l = [] := List.length_eq_zero_iff.1 (by omega)
    subst this
    exact ⟨none, 0, by rw [hv, h0], by simp [h0], by omega, fun i hi => absurd hi (by simp), fun x hx => absurd hx (by simp)⟩
  · subst hv
    exact ⟨_, _, rfl, sigAt_of_owns h hm hf⟩
theorem plain_succ {l : List Sym} {k : Nat} (hk : k < l.length) : symCells ((l.take (k + 1)).map plainS) = symCells ((l.take k).map plainS) ++ symCells [plainS l[k]] := by
  rw [List.take_succ_eq_append_getElem hk, List.map_append, symCells_append]; rfl

theorem own_base {w : World} {base n : Nat} {e : TypeId} {z : Nat} {v : Value} {xs : List Value} (h : w.ownsRow base e z v n xs) : ∀ k, v.ownBlock = some k → base ≤ k := by
  intro k hk
  rcases h.2 with ⟨hv, _⟩ | ⟨g, cap, cur, hv, hb, _⟩
  · subst hv; cases hk
  · subst hv; cases hk; exact hb

set_option maxHeartbeats 400000 in
theorem rplain_any (a : Option Addr) (n cap : Nat) (l : List Sym) (w : World) (h : SigAt w a n l) (hr : n * 48 ≤ 140737488351232) :
    Calls Try.prog 23 #[.slice a n cap] w fun e w' => ∃ a' cap', e = .returned (.slice a' n cap') ∧ SigAt w' a' n (l.map plainS) ∧ Below w.heap.size w w' := by
  obtain ⟨i0, hi, hz0, hz1, hz2⟩ := info_parts Try.info57
  have HS : Hid (SigAt w a n l) := h
  have hlen : Hid (n = l.length) := h.len
  clear h
  go_enter Try.func23, Try.ntmps23
  go_wp2
  go_loopw [3, 4, 5] (fun v i _ w' => ∃ k : Nat, k ≤ n ∧ i = .int .i64 k ∧ w'.ownsRow w.heap.size 57 4 v k (symCells ((l.take k).map plainS)) ∧ Below w.heap.size w w') (fun _ i _ _ => n - (intOf i).toNat)
  case atStart => exact ⟨0, Nat.zero_le _, rfl, World.ownsRow_nil _ _ _ _, Below.refl _ _⟩
  case round =>
    obtain ⟨k, hk, rfl, hown, hb⟩ := hrel
    have HB : Hid (Below w.heap.size w wr) := hb
    by_cases hlt : k < n
    · have hlk : k < l.length := by have := hlen.out; omega
      obtain ⟨b, off, rfl, hsym⟩ := HS.out.cells k hlk
      have hw := hsym.below hb
      have c0 := hw.name
      have c1 := hw.kind
      have c2 := hw.arity
      have c3 := hw.unit
      clear hw hsym hb
      cases hk3 : (l[k].kind == 3)
      · have hp : Hid (l[k] = plainS l[k]) := (plainS_not (by simpa using hk3)).symm
        go_wp2_with (at_builtin; refine wpList_append_lies _ rfl (.tmp 21) (.tmp 23) 23 rfl w.heap.size 57 i0 _ 4 48 Try.underlying23 hi hz0 hz1 hz2 rfl (by decide) u3 k _ rfl ((hown.alloc _).alloc _) ⟨wr.heap.size + 1, 0, none⟩ 1 1 (symCells [l[k]]) rfl rfl (sym_news _ _ (by simp) _) (symCells_oneCell _) (by decide) (by unfold maxLen; omega) (by omega) (by have := HB.out.size; simp; omega) (wr.heap.size + 2) (by simp) ?_; intro g1 cap1 w1 hown1 hgrow1 hat1 hlt1)
        have HB2 := ((HB.out.alloc HB.out.size _).alloc (by have := HB.out.size; simp; omega) _).grown hgrow1 (by have := HB.out.size; simp; omega) (own_base hown)
        go_roundw
        case rel => exact ⟨k + 1, by omega, by go_num, by rw [plain_succ hlk, ← hp.out]; exact hown1, HB2⟩
        case measure => simp [intOf]; omega
      · have hp : Hid ((⟨l[k].name, 2, l[k].arity, ⟨#[]⟩⟩ : Sym) = plainS l[k]) := (plainS_is (by simpa using hk3)).symm
        go_wp2_with (at_builtin; refine wpList_append_lies _ rfl (.tmp 21) (.tmp 23) 23 rfl w.heap.size 57 i0 _ 4 48 Try.underlying23 hi hz0 hz1 hz2 rfl (by decide) u3 k _ rfl ((hown.alloc _).alloc _) ⟨wr.heap.size + 1, 0, none⟩ 1 1 (symCells [⟨l[k].name, 2, l[k].arity, ⟨#[]⟩⟩]) rfl rfl (sym_news _ _ (by simp) _) (symCells_oneCell _) (by decide) (by unfold maxLen; omega) (by omega) (by have := HB.out.size; simp; omega) (wr.heap.size + 2) (by simp) ?_; intro g1 cap1 w1 hown1 hgrow1 hat1 hlt1)
        have HB2 := ((HB.out.alloc HB.out.size _).alloc (by have := HB.out.size; simp; omega) _).grown hgrow1 (by have := HB.out.size; simp; omega) (own_base hown)
        go_roundw
        case rel => exact ⟨k + 1, by omega, by go_num, by rw [plain_succ hlk, ← hp.out]; exact hown1, HB2⟩
        case measure => simp [intOf]; omega
    · have hkn : Hid (k = n) := by show k = n; omega
      have hfin : Hid (∃ a' cap', u3 = .slice a' n cap' ∧ SigAt wr a' n (l.map plainS)) := by
        have h1 := hown
        rw [hkn.out, List.take_of_length_le (by have := hlen.out; omega)] at h1
        exact sigAt_of_owns_any h1 (by unfold maxLen; omega) (fun x hx => by
          obtain ⟨y, hy, rfl⟩ := List.mem_map.1 hx
          exact plainS_fits (HS.out.fits y hy))
      clear hown hb
      go_wp2
      go_ret
      obtain ⟨a', cap', hv, hs⟩ := hfin.out
      exact ⟨a', cap', by rw [← hv]; rfl, hs, HB.out⟩
end Go.Proofs.Ytfnfbljijkjkjaa
