import Derived.Test.YtgidgmgpgfonnaaGreatKSLent
/- Binds under way no two of whose terms share a block; what clone and Restrict answer. -/
namespace Go.Proofs.YtgidgmgpgfonnaaGreat
open Go.RowKit Go.Deep

/-- Binds under way: a row of its own, the terms' lists elsewhere, each another. -/
structure SepB (B : Nat) (W : World) (v : Value) (ks : List Bk) : Prop where
  row : W.ownsRow B 43 4 v ks.length (bkAll ks)
  gl : GL SepE W (ks.map (·.2)) (fun q => B ≤ q ∧ some q ≠ v.ownBlock)
theorem SepB.nil (B : Nat) (W : World) : SepB B W (.slice none 0 0) [] := ⟨World.ownsRow_nil _ _ _ _, trivial⟩
theorem SepB.below {B : Nat} {W W' : World} {v : Value} {ks : List Bk} (h : SepB B W v ks) (hb : Below W.heap.size W W') : SepB B W' v ks := ⟨owns_below h.row hb, h.gl.keep sepE (fun q _ hlt => hb.block q hlt)⟩
theorem SepB.lt {B : Nat} {W : World} {v : Value} {ks : List Bk} {g : Nat} (h : SepB B W v ks) (hg : v.ownBlock = some g) : g < W.heap.size := by
  obtain ⟨cur, hc⟩ := (owns_cells h.row hg).2
  exact (Array.getElem?_eq_some_iff.1 hc).1
theorem SepB.tm {B : Nat} {W : World} {v : Value} {ks : List Bk} (h : SepB B W v ks) : ∀ k ∈ ks, TmAt W k.2.x k.2.a k.2.c k.2.l := fun k hk => by
  obtain ⟨A, _, hA⟩ := h.gl.mem (List.mem_map_of_mem (f := (·.2)) hk)
  exact SepTm.tm hA
theorem SepB.grow {B : Nat} {W W1 W2 : World} {v v' : Value} {ks : List Bk} {y : Bk} (h : SepB B W v ks) (hW : Below W.heap.size W W1) (hm : SepTm W1 (fun q => W.heap.size ≤ q) y.2.x y.2.a y.2.c y.2.l) (hB : B ≤ W.heap.size)
    (hg : W1.grownBy W2 v.ownBlock) (hat : v'.ownBlock = v.ownBlock ∨ v'.ownBlock = some W1.heap.size) (ho : W2.ownsRow B 43 4 v' (ks ++ [y]).length (bkAll (ks ++ [y]))) : SepB B W2 v' (ks ++ [y]) := by
  refine ⟨ho, ?_⟩
  have hsz := hW.size
  have h1 : GL SepE W2 (ks.map (·.2)) (fun q => (B ≤ q ∧ some q ≠ v.ownBlock) ∧ q < W.heap.size) := by
    refine (h.gl.within sepE).keep sepE (fun q hq hlt => ?_)
    rw [hg.block q (by omega) hq.1.2]
    exact hW.block q hlt
  have h2 : SepTm W2 (fun q => W.heap.size ≤ q ∧ q < W1.heap.size) y.2.x y.2.a y.2.c y.2.l := (SepTm.within hm).keep (fun q hq hlt => hg.block q hlt (fun e => by have := h.lt e.symm; omega))
  have h3 := GL.snoc (E := SepE) (k := y.2) h1 h2 (fun q hq hq2 => by omega)
  rw [List.map_append]
  refine h3.mono fun q hq => ?_
  rcases hq with ⟨⟨hq1, hq2⟩, hq3⟩ | ⟨hq1, hq2⟩
  · refine ⟨hq1, ?_⟩
    rcases hat with e | e
    · rw [e]; exact hq2
    · rw [e]; intro e'; cases e'; omega
  · refine ⟨by omega, ?_⟩
    rcases hat with e | e
    · rw [e]; intro e'; have := h.lt e'.symm; omega
    · rw [e]; intro e'; cases e'; omega
theorem SepB.slice {B : Nat} {W : World} {v : Value} {ks : List Bk} (h : SepB B W v ks) : (v = .slice none 0 0 ∧ ks = []) ∨ ∃ g cap, v = .slice (some ⟨g, 0, none⟩) ks.length cap := by
  rcases h.row.2 with ⟨h1, h2⟩ | ⟨g, cap, cur, h1, _⟩
  · exact .inl ⟨h1, List.eq_nil_of_length_eq_zero h2⟩
  · exact .inr ⟨g, cap, h1⟩
/-- As binds in memory. -/
theorem SepB.binds {B : Nat} {W : World} {ks : List Bk} {P : Option Addr} {c : Nat} (h : SepB B W (.slice P ks.length c) ks) (hf : ∀ k ∈ ks, k.1.size ≤ maxLen) : BindsAt W P ks.length (ks.map bkBn) := by
  have hf' : ∀ x ∈ ks.map bkBn, x.1.size ≤ maxLen := fun x hx => by
    obtain ⟨k, hk, rfl⟩ := List.mem_map.1 hx
    exact hf k hk
  rcases h.slice with ⟨_, rfl⟩ | ⟨g, cap, hv⟩
  · exact ⟨rfl, by simp, fun i hi => absurd hi (by simp), hf'⟩
  · cases hv
    have hc := owns_cap h.row
    refine ⟨by simp, by omega, fun i hi => ?_, hf'⟩
    have hi' : i < ks.length := by simpa using hi
    refine ⟨g, 0, ks[i].2.a, ks[i].2.c, rfl, ?_⟩
    have := row_bd h.row i hi' (h.tm _ (List.getElem_mem hi'))
    simpa using this

theorem Tryz.size43 : (Tryz.prog.info? 43).map (·.size) = some 4 := by kernel_rfl
/-- Four cells stored. -/
theorem box50_all {W : World} {B : Nat} {y0 y1 y2 y3 : Value} (h : Box W B 43 #[y0, y1, y2, y3]) (x0 x1 x2 x3 : Value) : Box ((((W.setCell ⟨B, 0, none⟩ x0).setCell ⟨B, 1, none⟩ x1).setCell ⟨B, 2, none⟩ x2).setCell ⟨B, 3, none⟩ x3) B 43 #[x0, x1, x2, x3] := by
  have := block_set (k := 3) (block_set (k := 2) (block_set (k := 1) (block_set (k := 0) h x0) x1) x2) x3
  exact this
theorem sets4_far {W : World} {B q : Nat} (h : q ≠ B) (a b c d : Value) : ((((W.setCell ⟨B, 0, none⟩ a).setCell ⟨B, 1, none⟩ b).setCell ⟨B, 2, none⟩ c).setCell ⟨B, 3, none⟩ d).heap[q]? = W.heap[q]? :=
  (((Below.heap_setCell _ _ _ _ h).trans (Below.heap_setCell _ _ _ _ h)).trans (Below.heap_setCell _ _ _ _ h)).trans (Below.heap_setCell _ _ _ _ h)
theorem sets4_below {n0 : Nat} {w W : World} {B : Nat} (hb : Below n0 w W) (h : n0 ≤ B) (a b c d : Value) : Below n0 w ((((W.setCell ⟨B, 0, none⟩ a).setCell ⟨B, 1, none⟩ b).setCell ⟨B, 2, none⟩ c).setCell ⟨B, 3, none⟩ d) :=
  (((hb.setCell (p := ⟨B, 0, none⟩) h _).setCell (p := ⟨B, 1, none⟩) h _).setCell (p := ⟨B, 2, none⟩) h _).setCell (p := ⟨B, 3, none⟩) h _
set_option maxRecDepth 100000 in
set_option maxHeartbeats 4000000 in
/-- clone of a bind. -/
theorem cloneb_any (vn : ByteArray) (x : ByteArray × Int) (l : Fo) (a : Option Addr) (c : Nat) (w : World) (hT : TmAt w x a c l) :
    Calls Tryz.prog 28 #[.agg #[.string vn, .string x.1, .int .i64 x.2, .slice a (lenF l) c]] w fun e w' => ∃ a' c', e = .returned (.agg #[.string vn, .string x.1, .int .i64 x.2, .slice a' (lenF l) c']) ∧ SepTm w' (fun q => w.heap.size ≤ q) x a' c' l ∧ Below w.heap.size w w' := by
  obtain ⟨W0, hW0⟩ : ∃ W0, (w.alloc (.cells #[.string vn, .string x.1, .int .i64 x.2, .slice a (lenF l) c] 43)).alloc (.cells #[.string ⟨#[]⟩, .string ⟨#[]⟩, .int .i64 0, .slice none 0 0] 43) = W0 := ⟨_, rfl⟩
  have hb0 : Below w.heap.size w W0 := by rw [← hW0]; exact ((Below.refl _ w).alloc (Nat.le_refl _) _).alloc (by simp) _
  have b1 : Box W0 w.heap.size 43 #[.string vn, .string x.1, .int .i64 x.2, .slice a (lenF l) c] := by rw [← hW0]; exact (Below.heap_alloc _ _ _ (by simp)).trans (World.alloc_heap_new w _)
  have b2 : Box W0 (w.heap.size + 1) 43 #[.string ⟨#[]⟩, .string ⟨#[]⟩, .int .i64 0, .slice none 0 0] := by
    have := World.alloc_heap_new (w.alloc (.cells #[.string vn, .string x.1, .int .i64 x.2, .slice a (lenF l) c] 43)) (.cells #[.string ⟨#[]⟩, .string ⟨#[]⟩, .int .i64 0, .slice none 0 0] 43)
    rw [World.size_alloc] at this
    rw [← hW0]; exact this
  have hsz : W0.heap.size = w.heap.size + 2 := by rw [← hW0]; simp
  have HC := hid fun (W : World) (hW : Below w.heap.size w W) => clone_any x l a c W (hT.below hW)
  have HB0 := hid hb0; have HX := hid b1; have HY := hid b2; have HSZ := hid hsz
  have z0 := b1.c 0; have z1 := b1.c 1; have z2 := b1.c 2; have z3 := b1.c 3
  clear hT b1 b2 hb0 hsz
  go_enter Tryz.func28, Tryz.ntmps28
  go_upto_region 1 with fail
  clear hW0
  go_region_with ((first
    | (go_at_call 53; refine Calls.mono (HC.out _ HB0.out.drew) ?_; rintro e w1 ⟨a', c', rfl, hs1, hb1, _⟩; have hb1' : Below W0.heap.size W0 w1 := ((Below.refl _ W0).drew).trans hb1; have HS1 : Hid (SepTm w1 (fun q => w.heap.size + 2 ≤ q) x a' c' l) := hid (hs1.mono (fun q hq => by have := HSZ.out; simp at hq; omega)); have HB1 := hid (HB0.out.trans (hb1'.mono HB0.out.size)); have X1 := HX.out.below hb1'; have Y1 := HY.out.below hb1'; have HY1 := hid Y1; have y0 := X1.c 0; have r0 := Y1.c 0; have r1 := Y1.c 1; have r2 := Y1.c 2; have r3 := Y1.c 3; have g0 := Y1.f 0; have g1 := Y1.f 1; have g2 := Y1.f 2; have g3 := Y1.f 3; clear hs1 hb1 hb1' X1 Y1)
    | fail))
  all_goals
    go_wp2_with fail
    refine bodyPost_ret (results_cell_row rfl _ _ (w.heap.size + 1) 43 #[.string vn, .string x.1, .int .i64 x.2, .slice a' (lenF l) c'] (0, 0) _ rfl (box50_all HY1.out _ _ _ _) Tryz.underlying43 rfl Tryz.size43) rfl ?_
    refine ⟨a', c', rfl, ?_, sets4_below HB1.out (by omega) _ _ _ _⟩
    exact (HS1.out.keep (fun q hq _ => sets4_far (by omega) _ _ _ _)).mono (fun q hq => by omega)
end Go.Proofs.YtgidgmgpgfonnaaGreat
