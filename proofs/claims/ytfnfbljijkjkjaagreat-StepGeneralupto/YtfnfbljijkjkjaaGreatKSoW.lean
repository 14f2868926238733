import Derived.Deep.RegionLaw
import Derived.Deep.AppendLies
import Derived.Laws.EntriesVeiled
import Derived.Test.YtfnfbljijkjkjaaGreatKSoT
/- The solver at one equation: allFree of leaves, take, add, putInSides and putInBound of none. -/
namespace Go.Proofs.YtfnfbljijkjkjaaGreat
open Go.RowKit Go.Deep

set_option maxRecDepth 100000 in
theorem index_none (f : Value) (w : World) : Calls Tryz.prog 71 #[.slice none 0 0, f] w fun e w' => e = .returned (.int .i64 (-1)) ∧ w' = w := by
  go_enter Tryz.func71, Tryz.ntmps71
  go_wp2
  go_loopw [8] (fun i wr => i = .int .i64 0 ∧ wr = w) (fun _ _ => 0)
  case atStart => exact ⟨rfl, rfl⟩
  case round =>
    obtain ⟨rfl, rfl⟩ := hrel
    go_wp2
    go_ret
    exact ⟨rfl, rfl⟩
set_option maxRecDepth 100000 in
theorem contains_none (f : Value) (w : World) : Calls Tryz.prog 48 #[.slice none 0 0, f] w fun e w' => e = .returned (.bool false) ∧ w' = w := by
  have H := hid fun W => index_none f W
  go_enter Tryz.func48, Tryz.ntmps48
  go_wp2_with (go_at_call 71; refine (H.out _).mono ?_; rintro e w1 ⟨rfl, rfl⟩)
  go_ret
  exact ⟨rfl, rfl⟩
set_option maxRecDepth 100000 in
set_option maxHeartbeats 2000000 in
/-- A constant, or a variable. -/
theorem allFree_leaf (S : Option Addr) (n cap : Nat) (sg : List Sym) (x : ByteArray × Int) (w : World) (hG : SigAt w S n sg) (hx : noName x.1 = true → freeB sg x.2 = true) :
    Calls Tryz.prog 27 #[.slice S n cap, .agg #[.string x.1, .int .i64 x.2, .slice none 0 0]] w fun e w' => e = .returned (.bool true) ∧ Below w.heap.size w w' := by
  obtain ⟨xn, xs⟩ := x
  dsimp only at *
  obtain ⟨b1, b2, hb0⟩ := two_new w #[.slice S n cap] 23 #[.string xn, .int .i64 xs, .slice none 0 0] 26
  have H42 := hid fun (W : World) (hW : Below w.heap.size w W) => isFree_any S n cap sg xs W (hG.below hW)
  have H48 := hid fun (f : Value) (W : World) => contains_none f W
  have HB0 := hid hb0
  have z0 := b1.c 0; have y0 := b2.c 0; have y1 := b2.c 1; have y2 := b2.c 2
  clear hG b1 b2 hb0
  cases he : xn.toList.isEmpty
  · go_enter Tryz.func27, Tryz.ntmps27
    go_wp2_with (go_at_call 48; refine (H48.out _ _).mono ?_; rintro e w1 ⟨rfl, rfl⟩)
    go_ret
    exact ⟨rfl, HB0.out⟩
  · have hf := hx he
    rw [hf] at H42
    go_enter Tryz.func27, Tryz.ntmps27
    go_wp2_with (first
      | (go_at_call 44; refine (H42.out _ HB0.out).mono ?_; rintro e w1 ⟨rfl, rfl⟩)
      | (go_at_call 48; refine (H48.out _ _).mono ?_; rintro e w1 ⟨rfl, rfl⟩))
    go_ret
    exact ⟨rfl, HB0.out⟩

theorem Tryz.size28 : (Tryz.prog.info? 28).map (·.size) = some 6 := by kernel_rfl
theorem ret_take {fn : Func} {R : Ending → World → Prop} {a : Act} {w : World} {p u B : Nat} {cs : Array Value} (h : fn.results = #[.cell p 28, .tmp u]) (hp : a.tmps.getD p undef = .pointer (some ⟨B, 0, none⟩)) (hz : cs.size = 6)
    (hx : Box w B 28 cs) (hd : a.defers = []) (hR : R (.returned (.tuple #[.agg cs, a.tmps.getD u undef])) w) : bodyPost Tryz.prog fn R .ret a w := by
  refine bodyPost_ret ?_ hd hR
  rw [results_cell_tmp h, hp]
  rw [show (asAddr (.pointer (some ⟨B, 0, none⟩))).run Tryz.prog w = .ok ⟨B, 0, none⟩ w from rfl]
  simp only [Result.andThen_ok, run_loadVar_row w B 28 28 _ (0, 0) _ hx Tryz.underlying28 rfl (Tryz.size28.trans (by rw [hz]))]
theorem fr_alloc {A : Nat → Prop} {w W : World} (h : Fr A w W) (o : Obj) : Fr A w (W.alloc o) := h.trans (Fr.of_below (alloc_below0 W o))
theorem fr_set1 {A : Nat → Prop} {w W : World} (h : Fr A w W) {B : Nat} (hB : A B) (k : Nat) (v : Value) : Fr A w (W.setCell ⟨B, k, none⟩ v) :=
  h.trans ⟨(Below.refl _ W).setCell (p := ⟨B, k, none⟩) (Nat.zero_le _) v, fun q _ hA => Below.heap_setCell W ⟨B, k, none⟩ v q (fun e => hA (by subst e; exact hB))⟩

set_option maxRecDepth 100000 in
set_option maxHeartbeats 2000000 in
/-- take, where there is one. -/
theorem take_one (B g c : Nat) (bd : Value) (w : World) (k1 k2 : Kv) (hB : Box w B 72 #[.slice (some ⟨g, 0, none⟩) 1 c, bd]) (hc : 1 ≤ c) (hg : CellsAt w g [k1, k2]) :
    Calls Tryz.prog 29 #[.pointer (some ⟨B, 0, none⟩)] w fun e w' => e = .returned (.tuple #[.agg #[.string k1.x.1, .int .i64 k1.x.2, .slice k1.a (lenF k1.l) k1.c, .string k2.x.1, .int .i64 k2.x.2, .slice k2.a (lenF k2.l) k2.c], .bool true]) ∧ Box w' B 72 #[.slice (some ⟨g, 0, none⟩) 0 c, bd] ∧ Fr (fun q => q = B) w w' := by
  have c0 := hB.c 0
  have f0 := hB.f 0
  have h0 : w.cell? ⟨g, 0, none⟩ = some (.string k1.x.1) := hg 0 _ rfl
  have h1 : w.cell? ⟨g, 1, none⟩ = some (.int .i64 k1.x.2) := hg 1 _ rfl
  have h2 : w.cell? ⟨g, 2, none⟩ = some (.slice k1.a (lenF k1.l) k1.c) := hg 2 _ rfl
  have h3 : w.cell? ⟨g, 3, none⟩ = some (.string k2.x.1) := hg 3 _ rfl
  have h4 : w.cell? ⟨g, 4, none⟩ = some (.int .i64 k2.x.2) := hg 4 _ rfl
  have h5 : w.cell? ⟨g, 5, none⟩ = some (.slice k2.a (lenF k2.l) k2.c) := hg 5 _ rfl
  have HB := hid hB
  have hlt := hB.lt
  have hgl : g < w.heap.size := World.block_lt_of_cell? w ⟨g, 0, none⟩ h0
  clear hB hg
  go_enter Tryz.func29, Tryz.ntmps29
  go_wp2_with fail
  have hS : Box (w.setCell ⟨B, 0, none⟩ (.slice (some ⟨g, 0, none⟩) 0 c)) B 72 #[.slice (some ⟨g, 0, none⟩) 0 c, bd] := HB.out.set 0 _
  have hz : (w.setCell ⟨B, 0, none⟩ (.slice (some ⟨g, 0, none⟩) 0 c)).heap.size = w.heap.size := by simp
  have hF : Fr (fun q => q = B) w (w.setCell ⟨B, 0, none⟩ (.slice (some ⟨g, 0, none⟩) 0 c)) := fr_set1 (A := fun q => q = B) (Fr.refl _ w) rfl 0 _
  refine ret_take (p := 2) (u := 3) (B := w.heap.size) (cs := #[.string k1.x.1, .int .i64 k1.x.2, .slice k1.a (lenF k1.l) k1.c, .string k2.x.1, .int .i64 k2.x.2, .slice k2.a (lenF k2.l) k2.c]) rfl rfl rfl ((box_new hz 28 _).over _) rfl ?_
  exact ⟨rfl, (hS.over _).over _, fr_alloc (fr_alloc hF _) _⟩

set_option maxRecDepth 100000 in
set_option maxHeartbeats 2000000 in
/-- take, where there is none. -/
theorem take_none (B c : Nat) (p : Option Addr) (bd : Value) (w : World) (hB : Box w B 72 #[.slice p 0 c, bd]) :
    Calls Tryz.prog 29 #[.pointer (some ⟨B, 0, none⟩)] w fun e w' => e = .returned (.tuple #[.agg #[.string ⟨#[]⟩, .int .i64 0, .slice none 0 0, .string ⟨#[]⟩, .int .i64 0, .slice none 0 0], .bool false]) ∧ Below w.heap.size w w' := by
  have c0 := hB.c 0
  have hlt := hB.lt
  clear hB
  go_enter Tryz.func29, Tryz.ntmps29
  go_wp2_with fail
  refine ret_take (p := 2) (u := 3) (B := w.heap.size) (cs := #[.string ⟨#[]⟩, .int .i64 0, .slice none 0 0, .string ⟨#[]⟩, .int .i64 0, .slice none 0 0]) rfl rfl rfl (Box.new w 28 _) rfl ?_
  exact ⟨rfl, alloc_below0 w _⟩

set_option maxRecDepth 100000 in
set_option maxHeartbeats 2000000 in
theorem sides_none (B c : Nat) (p : Option Addr) (bd pt : Value) (w : World) (hB : Box w B 72 #[.slice p 0 c, bd]) :
    Calls Tryz.prog 55 #[.pointer (some ⟨B, 0, none⟩), pt] w fun e w' => e = .returned (.bool true) ∧ w' = w := by
  have c0 := hB.c 0
  clear hB
  go_enter Tryz.func55, Tryz.ntmps55
  go_wp2_with fail
  go_loopw [12] (fun i wr => i = .int .i64 0 ∧ wr = w) (fun _ _ => 0)
  case atStart => exact ⟨rfl, rfl⟩
  case round =>
    obtain ⟨rfl, rfl⟩ := hrel
    go_wp2_with fail
    go_ret
    exact ⟨rfl, rfl⟩
set_option maxRecDepth 100000 in
set_option maxHeartbeats 2000000 in
theorem bound_none (B : Nat) (eq pt : Value) (w : World) (hB : Box w B 72 #[eq, .slice none 0 0]) :
    Calls Tryz.prog 56 #[.pointer (some ⟨B, 1, none⟩), pt] w fun e w' => e = .returned (.bool true) ∧ w' = w := by
  have c0 := hB.c 1
  clear hB
  go_enter Tryz.func56, Tryz.ntmps56
  go_wp2_with fail
  go_loopw [11] (fun i wr => i = .int .i64 0 ∧ wr = w) (fun _ _ => 0)
  case atStart => exact ⟨rfl, rfl⟩
  case round =>
    obtain ⟨rfl, rfl⟩ := hrel
    go_wp2_with fail
    go_ret
    exact ⟨rfl, rfl⟩

theorem Tryz.info38 : (Tryz.prog.info? 38).map (fun i => (i.zero, i.size, i.bytes)) = some (some (.agg #[.string ⟨#[]⟩, .string ⟨#[]⟩, .int .i64 0, .slice none 0 0]), 4, 64) := by kernel_rfl
theorem own_cap1 {w : World} {base e z g n cap : Nat} {xs : List Value} (h : w.ownsRow base e z (.slice (some ⟨g, 0, none⟩) n cap) n xs) : n ≤ cap := by
  rcases h.2 with ⟨hv, _⟩ | ⟨g', cap', cur, hv, _, _, h2, _⟩
  · cases hv
  · cases hv; exact h2
theorem one_bind (nm : ByteArray) (x : ByteArray × Int) (a : Option Addr) (n c : Nat) : ∀ u ∈ [Value.string nm, .string x.1, .int .i64 x.2, .slice a n c], u.oneCell' = true := by
  intro u hu
  simp only [List.mem_cons, List.not_mem_nil, or_false] at hu
  rcases hu with rfl | rfl | rfl | rfl <;> rfl
set_option maxRecDepth 100000 in
set_option maxHeartbeats 4000000 in
/-- add, where there was none. -/
theorem add_one (B : Nat) (eq : Value) (w : World) (nm : ByteArray) (x : ByteArray × Int) (a : Option Addr) (n c : Nat) (hB : Box w B 72 #[eq, .slice none 0 0]) :
    Calls Tryz.prog 57 #[.pointer (some ⟨B, 1, none⟩), .agg #[.string nm, .string x.1, .int .i64 x.2, .slice a n c]] w fun e w' => (∃ v, e = .returned v) ∧ (∃ g2 c2, Box w' B 72 #[eq, .slice (some ⟨g2, 0, none⟩) 1 c2] ∧ 1 ≤ c2 ∧ w'.ownsRow w.heap.size 38 4 (.slice (some ⟨g2, 0, none⟩) 1 c2) 1 [.string nm, .string x.1, .int .i64 x.2, .slice a n c]) ∧ Fr (fun q => q = B) w w' := by
  obtain ⟨i0, hi, hz0, hz1, hz2⟩ := info_parts Tryz.info38
  have hb1 := hB.over (.cells #[.string nm, .string x.1, .int .i64 x.2, .slice a n c] 38)
  have hX := Box.new w 38 #[.string nm, .string x.1, .int .i64 x.2, .slice a n c]
  have c1 := hb1.c 1
  have f1 := hb1.f 1
  have z0 := hX.c 0; have z1 := hX.c 1; have z2 := hX.c 2; have z3 := hX.c 3
  have HB := hid hb1
  have hlt := hB.lt
  clear hB hb1 hX
  go_enter Tryz.func57, Tryz.ntmps57
  go_upto_region 1 with fail
  go_region_law (refine step_append_lies _ (by rfl) _ _ 29 (by rfl) w.heap.size 38 i0 _ 4 64 Tryz.underlying29 hi hz0 hz1 hz2 rfl (by decide) (.slice none 0 0) 0 [] (by rfl) (World.ownsRow_nil _ _ _ _) ⟨w.heap.size + 1, 0, none⟩ 1 1 [.string nm, .string x.1, .int .i64 x.2, .slice a n c] (by rfl) rfl (World.news_of_block (box_new (by simp) 38 _)) (one_bind nm x a n c) (by decide) (by decide) (by decide) (by simp; omega) _ rfl ?_; intro g3 cap3 w3 hown3 hgrow3 hat3 hlt3; have hb3 : Box w3 B 72 #[eq, .slice none 0 0] := (hgrow3.block B (by show B < _; simp; omega) (fun e => by cases e)).trans (HB.out.over (.cells #[.string nm, .string x.1, .int .i64 x.2, .slice a n c] 38)); have HB3 := hid hb3; have v1 := hb3.c 1; have e1 := hb3.f 1; have HO3 := hid hown3; have HG3 := hid hgrow3; clear hown3 hgrow3 hat3 hb3)
  all_goals
    have HF : Fr (fun q => q = B) w w3 := by
      have h1 : Below w.heap.size w w3 := by
        refine Below.grown ?_ HG3.out (by simp; omega) (fun k e => by cases e)
        exact (((Below.refl _ w).alloc (Nat.le_refl _) _).alloc (by simp) _).drew
      exact Fr.of_below h1
    refine bodyPost_end (results_none rfl _ _ _) rfl ?_
    have hq3 : w.heap.size ≤ g3 := (owns_cells (g := g3) HO3.out rfl).1
    have hne : g3 ≠ B := by omega
    have hown : (w3.setCell ⟨B, 1, none⟩ (.slice (some ⟨g3, 0, none⟩) 1 cap3)).ownsRow w.heap.size 38 4 (.slice (some ⟨g3, 0, none⟩) 1 cap3) 1 [.string nm, .string x.1, .int .i64 x.2, .slice a n c] := owns_block HO3.out (fun g hg => by cases hg; exact Below.heap_setCell _ _ _ _ hne)
    have hbx : Box (w3.setCell ⟨B, 1, none⟩ (.slice (some ⟨g3, 0, none⟩) 1 cap3)) B 72 #[eq, .slice (some ⟨g3, 0, none⟩) 1 cap3] := HB3.out.set 1 _
    exact ⟨⟨_, rfl⟩, ⟨g3, cap3, hbx, own_cap1 HO3.out, hown⟩, fr_set1 (A := fun q => q = B) HF rfl 1 _⟩
end Go.Proofs.YtfnfbljijkjkjaaGreat
