import Derived.Test.YtfnfbljijkjkjaaGreatKSoD
/- clone and One of the program. -/
namespace Go.Proofs.YtfnfbljijkjkjaaGreat
open Go.RowKit Go.Deep

/-- A row of equations, or none. -/
def RowQ (base : Nat) (w : World) (la : Option Addr) (n lc : Nat) (ks : List Kv) : Prop := (n = 0 ∧ la = none ∧ lc = 0) ∨ ∃ g, la = some ⟨g, 0, none⟩ ∧ base ≤ g ∧ lc = n ∧ EqRow w g n ks
theorem RowQ.keep {base : Nat} {w w' : World} {la : Option Addr} {n lc : Nat} {ks : List Kv} (h : RowQ base w la n lc ks) (hb : ∀ q, la = some ⟨q, 0, none⟩ → q < w.heap.size → w'.heap[q]? = w.heap[q]?) : RowQ base w' la n lc ks := by
  rcases h with h | ⟨g, h1, h2, h3, h4⟩
  · exact .inl h
  · exact .inr ⟨g, h1, h2, h3, h4.keep (hb g h1 h4.lt)⟩
theorem RowQ.below {base : Nat} {w w' : World} {la : Option Addr} {n lc : Nat} {ks : List Kv} (h : RowQ base w la n lc ks) (hb : Below w.heap.size w w') : RowQ base w' la n lc ks := h.keep (fun q _ hq => hb.block q hq)
/-- What One answers: all of it in new memory, no two lists of it in one block. -/
structure OneAt (base : Nat) (w : World) (v : Value) (W : Wy) : Prop where
  is : ∃ (tk : Kv) (ks : List Kv) (la : Option Addr) (lc : Nat), v = .agg (wayC W.act W.bv tk.x tk.a (lenF tk.l) tk.c la W.ls.length lc W.sym) ∧ tk.tn = W.t ∧ ks.map Kv.tn = flatL W.ls ∧ RowQ base w la W.ls.length lc ks ∧ SepL w (tk :: ks) (fun q => base ≤ q ∧ q < w.heap.size ∧ la ≠ some ⟨q, 0, none⟩)

/-- clone's boxes and what it has done so far. -/
structure ClSt (base : Nat) (wt w : World) (act : Int) (bv : ByteArray) (sym : Int) (la : Option Addr) (n lc : Nat) (ks : List Kv) (tk : Kv) (j : Nat) (ds : List Kv) (W : World) : Prop where
  low : Below base w W
  old : Below wt.heap.size wt W
  big : w.heap.size + 2 ≤ W.heap.size
  b : Box W w.heap.size 41 (wayC act bv tk.x tk.a (lenF tk.l) tk.c la n lc sym)
  z : Box W (w.heap.size + 1) 41 zWay
  row : RowQ base W la n lc (ds ++ ks.drop (2 * j))
  len : ds.length = 2 * j
  tn : ds.map Kv.tn = (ks.map Kv.tn).take (2 * j)
  sep : SepL W (tk :: ds) (fun q => w.heap.size + 2 ≤ q ∧ q < W.heap.size)

theorem ClSt.below {base : Nat} {wt w : World} {act : Int} {bv : ByteArray} {sym : Int} {la : Option Addr} {n lc : Nat} {ks : List Kv} {tk : Kv} {j : Nat} {ds : List Kv} {W W' : World} (h : ClSt base wt w act bv sym la n lc ks tk j ds W) (hb : Below W.heap.size W W') (hw : base ≤ w.heap.size) (ht : wt.heap.size ≤ W.heap.size) : ClSt base wt w act bv sym la n lc ks tk j ds W' :=
  ⟨h.low.trans (hb.mono (by have := h.big; omega)), h.old.trans (hb.mono ht), Nat.le_trans h.big hb.size, h.b.below hb, h.z.below hb, h.row.below hb, h.len, h.tn,
    (h.sep.keep (fun q _ hq => hb.block q hq)).mono (fun q hq => ⟨hq.1, Nat.lt_of_lt_of_le hq.2 hb.size⟩)⟩

theorem set6_cell {W : World} {g q i o : Nat} {k1 k2 : Kv} (h : q ≠ g) : (set6 W g o k1 k2).cell? ⟨q, i, none⟩ = W.cell? ⟨q, i, none⟩ := by
  have h2 := set6_far (W := W) h o k1 k2
  generalize set6 W g o k1 k2 = V at h2 ⊢
  exact World.cell?_of_block h2
theorem mid_cell (ds r : List Kv) (k1 k2 : Kv) (j c : Nat) (h : ds.length = 2 * j) : (kvCells (ds ++ k1 :: k2 :: r))[j * 6 + c]? = (kvCells (k1 :: k2 :: r))[c]? := by
  rw [kvCells_app, List.getElem?_append_right (by rw [kvCells_len]; omega), kvCells_len]
  congr 1; omega
theorem sets3_box {W : World} {B : Nat} {y0 y1 y2 y3 y4 y5 y6 : Value} (h : Box W B 41 #[y0, y1, y2, y3, y4, y5, y6]) (x2 x3 x4 : Value) : Box (((W.setCell ⟨B, 2, none⟩ x2).setCell ⟨B, 3, none⟩ x3).setCell ⟨B, 4, none⟩ x4) B 41 #[y0, y1, x2, x3, x4, y5, y6] := by
  have h2 : Box (W.setCell ⟨B, 2, none⟩ x2) B 41 #[y0, y1, x2, y3, y4, y5, y6] := block_set (k := 2) h x2
  have h3 : Box ((W.setCell ⟨B, 2, none⟩ x2).setCell ⟨B, 3, none⟩ x3) B 41 #[y0, y1, x2, x3, y4, y5, y6] := block_set (k := 3) h2 x3
  exact block_set (k := 4) h3 x4
theorem sets3_far {W : World} {B q : Nat} (h : q ≠ B) (x2 x3 x4 : Value) : (((W.setCell ⟨B, 2, none⟩ x2).setCell ⟨B, 3, none⟩ x3).setCell ⟨B, 4, none⟩ x4).heap[q]? = W.heap[q]? :=
  ((Below.heap_setCell _ _ _ _ h).trans (Below.heap_setCell _ _ _ _ h)).trans (Below.heap_setCell _ _ _ _ h)
theorem sets3_below {n0 : Nat} {w W : World} {B : Nat} (hb : Below n0 w W) (h : n0 ≤ B) (x2 x3 x4 : Value) : Below n0 w (((W.setCell ⟨B, 2, none⟩ x2).setCell ⟨B, 3, none⟩ x3).setCell ⟨B, 4, none⟩ x4) :=
  ((hb.setCell (p := ⟨B, 2, none⟩) h _).setCell (p := ⟨B, 3, none⟩) h _).setCell (p := ⟨B, 4, none⟩) h _
/-- The bind's term is cloned: nothing else is done yet. -/
theorem cl_start {base : Nat} {wt w w1 : World} {act : Int} {bv : ByteArray} {sym : Int} {la : Option Addr} {n lc : Nat} {ks : List Kv} {tk : Kv} {a' : Option Addr} {c' : Nat} (hw : Below wt.heap.size wt w) (hbw : base ≤ w.heap.size) (hb1 : Below w.heap.size w w1) (hsz : w.heap.size + 2 ≤ w1.heap.size)
    (hb : Box w1 w.heap.size 41 (wayC act bv tk.x tk.a (lenF tk.l) tk.c la n lc sym)) (hz : Box w1 (w.heap.size + 1) 41 zWay) (hrow : RowQ base w la n lc ks) (hs : SepTm w1 (fun q => w.heap.size + 2 ≤ q) tk.x a' c' tk.l) :
    ClSt base wt w act bv sym la n lc ks ⟨tk.x, tk.l, a', c'⟩ 0 [] (((w1.setCell ⟨w.heap.size, 2, none⟩ (.string tk.x.1)).setCell ⟨w.heap.size, 3, none⟩ (.int .i64 tk.x.2)).setCell ⟨w.heap.size, 4, none⟩ (.slice a' (lenF tk.l) c')) := by
  have hsz2 : (((w1.setCell ⟨w.heap.size, 2, none⟩ (.string tk.x.1)).setCell ⟨w.heap.size, 3, none⟩ (.int .i64 tk.x.2)).setCell ⟨w.heap.size, 4, none⟩ (.slice a' (lenF tk.l) c')).heap.size = w1.heap.size := by simp
  have hwb := sets3_below (B := w.heap.size) hb1 (Nat.le_refl _) (.string tk.x.1) (.int .i64 tk.x.2) (.slice a' (lenF tk.l) c')
  refine ⟨hwb.mono hbw, hw.trans (hwb.mono hw.size), by omega, sets3_box hb _ _ _, (sets3_far (by omega) _ _ _).trans hz, ?_, rfl, by simp, ?_⟩
  · rw [List.nil_append, Nat.mul_zero, List.drop_zero]
    exact hrow.below hwb
  · refine ⟨fun q => w.heap.size + 2 ≤ q ∧ q < w1.heap.size, fun _ => False, fun q hq => ⟨hq.1, by omega⟩, fun _ h => h.elim, ?_, trivial⟩
    exact hs.within.keep (fun q hq _ => sets3_far (by omega) _ _ _)

/-- One more equation is cloned. -/
theorem cl_step {base : Nat} {wt w : World} {act : Int} {bv : ByteArray} {sym : Int} {g n : Nat} {ks : List Kv} {tk : Kv} {j : Nat} {ds : List Kv} {E v1 v2 : World} {o1 o2 k1 k2 : Kv} (h : ClSt base wt w act bv sym (some ⟨g, 0, none⟩) n n ks tk j ds E) (hbw : base ≤ w.heap.size) (hbs : wt.heap.size ≤ base) (hgb : base ≤ g) (hgn : g < w.heap.size) (hjn : j < n)
    (he : EqRow E g n (ds ++ o1 :: o2 :: ks.drop (2 * (j + 1)))) (hd : ks.drop (2 * j) = o1 :: o2 :: ks.drop (2 * (j + 1))) (e1 : k1.tn = o1.tn) (e2 : k2.tn = o2.tn)
    (hb1 : Below E.heap.size E v1) (hs1 : SepTm v1 (fun q => E.heap.size ≤ q) k1.x k1.a k1.c k1.l) (hb2 : Below v1.heap.size v1 v2) (hs2 : SepTm v2 (fun q => v1.heap.size ≤ q) k2.x k2.a k2.c k2.l) :
    ClSt base wt w act bv sym (some ⟨g, 0, none⟩) n n ks tk (j + 1) (ds ++ [k1, k2]) (set6 v2 g (j * 6) k1 k2) := by
  have hb12 := hb1.trans (hb2.mono hb1.size)
  have hbig := h.big
  have hz1 := hb1.size
  have hz2 := hb2.size
  have h2 := h.below hb12 hbw (by omega)
  have hsz := set6_size v2 g (j * 6) k1 k2
  have hfar : ∀ q, q ≠ g → (set6 v2 g (j * 6) k1 k2).heap[q]? = v2.heap[q]? := fun q hq => set6_far hq _ _ _
  have hbl := set6_below h2.low hgb (j * 6) k1 k2
  have hbo := set6_below h2.old (Nat.le_trans hbs hgb) (j * 6) k1 k2
  have hrow : EqRow (set6 v2 g (j * 6) k1 k2) g n (ds ++ [k1, k2] ++ ks.drop (2 * (j + 1))) := by
    have h3 := he.below hb12
    rw [show ds ++ o1 :: o2 :: ks.drop (2 * (j + 1)) = ds ++ [o1, o2] ++ ks.drop (2 * (j + 1)) by simp] at h3
    exact h3.put (by rw [h.len]; omega) (by omega) k1 k2
  generalize set6 v2 g (j * 6) k1 k2 = V at hsz hfar hbl hbo hrow ⊢
  refine ⟨hbl, hbo, by omega, (hfar _ (by omega)).trans h2.b, (hfar _ (by omega)).trans h2.z, .inr ⟨g, rfl, hgb, rfl, hrow⟩, by rw [List.length_append, h.len]; simp only [List.length_cons, List.length_nil]; omega, ?_, ?_⟩
  · rw [List.map_append, h.tn]
    have e3 : (ks.map Kv.tn).drop (2 * j) = o1.tn :: o2.tn :: (ks.map Kv.tn).drop (2 * (j + 1)) := by rw [← List.map_drop, hd]; simp
    have e4 : (ks.map Kv.tn).take (2 * (j + 1)) = (ks.map Kv.tn).take (2 * j) ++ ((ks.map Kv.tn).drop (2 * j)).take 2 := by
      rw [show 2 * (j + 1) = 2 * j + 2 by omega, List.take_add]
    rw [e4, e3]
    simp [e1, e2]
  · have s1 : SepL v1 (tk :: ds) (fun q => w.heap.size + 2 ≤ q ∧ q < E.heap.size) := h.sep.keep (fun q _ hq => hb1.block q hq)
    have s2 := SepL.snoc hs1.within (fun q hq h' => by have := h'.1; omega) s1
    have s3 := s2.keep (fun q _ hq => hb2.block q hq)
    have s4 := SepL.snoc hs2.within (fun q hq h' => by
      rcases hq with hq | hq
      · have := h'.1; omega
      · have := h'.1; omega) s3
    rw [show tk :: (ds ++ [k1, k2]) = tk :: ds ++ [k1] ++ [k2] by simp]
    refine (s4.keep (fun q hq _ => hfar q ?_)).mono (fun q hq => ?_)
    · rcases hq with (hq | hq) | hq
      · omega
      · have := hq.1; omega
      · have := hq.1; omega
    · rcases hq with (hq | hq) | hq
      · exact ⟨hq.1, by omega⟩
      · exact ⟨by have := hq.1; omega, by have := hq.2; omega⟩
      · exact ⟨by have := hq.1; omega, by have := hq.2; omega⟩

/-- All are cloned, and the answer is stored. -/
theorem cl_end {base : Nat} {wt w : World} {act : Int} {bv : ByteArray} {sym : Int} {la : Option Addr} {n lc : Nat} {ks : List Kv} {tk0 : Kv} {tt : Tn} {ls : List (Tn × Tn)} {a' : Option Addr} {c' : Nat} {ds : List Kv} {W : World} (h : ClSt base wt w act bv sym la n lc ks ⟨tk0.x, tk0.l, a', c'⟩ n ds W) (hbw : base ≤ w.heap.size) (hkl : ks.length = 2 * n) (hks : ks.map Kv.tn = flatL ls) (htk : tk0.tn = tt) (hnn : ls.length = n) (hrg : ∀ q, la = some ⟨q, 0, none⟩ → q < w.heap.size) :
    (∃ v', Ending.returned (Value.agg (wayC act bv tk0.x a' (lenF tk0.l) c' la n lc sym)) = .returned v' ∧ OneAt base (((((((W.setCell ⟨w.heap.size + 1, 0, none⟩ (.int .i64 act)).setCell ⟨w.heap.size + 1, 1, none⟩ (.string bv)).setCell ⟨w.heap.size + 1, 2, none⟩ (.string tk0.x.1)).setCell ⟨w.heap.size + 1, 3, none⟩ (.int .i64 tk0.x.2)).setCell ⟨w.heap.size + 1, 4, none⟩ (.slice a' (lenF tk0.l) c')).setCell ⟨w.heap.size + 1, 5, none⟩ (.slice la n lc)).setCell ⟨w.heap.size + 1, 6, none⟩ (.int .i64 sym)) v' ⟨act, bv, tt, ls, sym⟩) ∧
    Below base w (((((((W.setCell ⟨w.heap.size + 1, 0, none⟩ (.int .i64 act)).setCell ⟨w.heap.size + 1, 1, none⟩ (.string bv)).setCell ⟨w.heap.size + 1, 2, none⟩ (.string tk0.x.1)).setCell ⟨w.heap.size + 1, 3, none⟩ (.int .i64 tk0.x.2)).setCell ⟨w.heap.size + 1, 4, none⟩ (.slice a' (lenF tk0.l) c')).setCell ⟨w.heap.size + 1, 5, none⟩ (.slice la n lc)).setCell ⟨w.heap.size + 1, 6, none⟩ (.int .i64 sym)) := by
  have hB := sets7_below (B := w.heap.size + 1) h.low (by omega) (.int .i64 act) (.string bv) (.string tk0.x.1) (.int .i64 tk0.x.2) (.slice a' (lenF tk0.l) c') (.slice la n lc) (.int .i64 sym)
  have hF : ∀ q, q ≠ w.heap.size + 1 → _ := fun q hq => sets7_far (W := W) (B := w.heap.size + 1) (q := q) hq (.int .i64 act) (.string bv) (.string tk0.x.1) (.int .i64 tk0.x.2) (.slice a' (lenF tk0.l) c') (.slice la n lc) (.int .i64 sym)
  have hZ : (((((((W.setCell ⟨w.heap.size + 1, 0, none⟩ (.int .i64 act)).setCell ⟨w.heap.size + 1, 1, none⟩ (.string bv)).setCell ⟨w.heap.size + 1, 2, none⟩ (.string tk0.x.1)).setCell ⟨w.heap.size + 1, 3, none⟩ (.int .i64 tk0.x.2)).setCell ⟨w.heap.size + 1, 4, none⟩ (.slice a' (lenF tk0.l) c')).setCell ⟨w.heap.size + 1, 5, none⟩ (.slice la n lc)).setCell ⟨w.heap.size + 1, 6, none⟩ (.int .i64 sym)).heap.size = W.heap.size := by simp
  generalize ((((((W.setCell ⟨w.heap.size + 1, 0, none⟩ (.int .i64 act)).setCell ⟨w.heap.size + 1, 1, none⟩ (.string bv)).setCell ⟨w.heap.size + 1, 2, none⟩ (.string tk0.x.1)).setCell ⟨w.heap.size + 1, 3, none⟩ (.int .i64 tk0.x.2)).setCell ⟨w.heap.size + 1, 4, none⟩ (.slice a' (lenF tk0.l) c')).setCell ⟨w.heap.size + 1, 5, none⟩ (.slice la n lc)).setCell ⟨w.heap.size + 1, 6, none⟩ (.int .i64 sym) = V at hB hF hZ ⊢
  subst hnn htk
  have hbig := h.big
  have hds : ds ++ ks.drop (2 * ls.length) = ds := by rw [List.drop_of_length_le (by omega), List.append_nil]
  have htn : ds.map Kv.tn = flatL ls := by rw [h.tn, hks, List.take_of_length_le (by rw [flat_len]; omega)]
  refine ⟨⟨_, rfl, ⟨⟨tk0.x, tk0.l, a', c'⟩, ds, la, lc, rfl, rfl, htn, ?_, ?_⟩⟩, hB⟩
  · have := h.row
    rw [hds] at this
    exact this.keep (fun q hq _ => hF q (by have := hrg q hq; omega))
  · refine (h.sep.keep (fun q hq _ => hF q (by omega))).mono (fun q hq => ⟨by have := hq.1; omega, by rw [hZ]; exact hq.2, fun e => by have := hrg q e; have := hq.1; omega⟩)

set_option maxRecDepth 100000 in
set_option maxHeartbeats 4000000 in
theorem cloneWay_any (base : Nat) (V : Wy) (v : Value) (wt w : World) (hv : LookAt base wt w v V) (hw : Below wt.heap.size wt w) (hbs : wt.heap.size ≤ base) (hbw : base ≤ w.heap.size) (hn : V.ls.length ≤ 1048576) :
    Calls Tryz.prog 22 #[v] w fun e w' => (∃ v', e = .returned v' ∧ OneAt base w' v' V) ∧ Below base w w' := by
  obtain ⟨act, bv, tt, ls, sym⟩ := V
  obtain ⟨tk, ks, la, lc, rfl, htk, hT, hks, hTs, hrow0⟩ := hv.is
  dsimp only at *
  have hrow : RowQ base w la ls.length lc ks := by
    rcases hrow0 with ⟨h1, h2, h3⟩ | h
    · exact .inl ⟨by rw [h1]; rfl, h2, h3⟩
    · exact .inr h
  have hkl : ks.length = 2 * ls.length := by
    have := congrArg List.length hks
    rw [List.length_map, flat_len] at this
    exact this
  obtain ⟨n, hnn⟩ : ∃ n, ls.length = n := ⟨_, rfl⟩
  rw [hnn] at hrow hkl hn ⊢
  obtain ⟨b1, b2, hb0⟩ := two_new w (wayC act bv tk.x tk.a (lenF tk.l) tk.c la n lc sym) 41 zWay 41
  have HC := hid fun (x : ByteArray × Int) (l : Fo) (a : Option Addr) (c : Nat) (W : World) (hW : Below wt.heap.size wt W) (h : TmAt wt x a c l) => clone_any x l a c W (h.below hW)
  have HT := hid hT; have HTS := hid hTs; have HROW := hid hrow; have HW := hid hw; have HKS := hid hks; have HTK := hid htk; have HKL := hid hkl; have HNN := hid hnn
  have hb0w := hw.trans (hb0.mono hw.size)
  have HB0 := hid hb0; have HB0W := hid hb0w; have HX := hid b1; have HY := hid b2
  have hsz : Hid (((w.alloc (.cells (wayC act bv tk.x tk.a (lenF tk.l) tk.c la n lc sym) 41)).alloc (.cells zWay 41)).heap.size = w.heap.size + 2) := hid (by simp)
  clear hv hT hTs hrow hrow0 hw hks htk hkl hnn hb0 b1 b2 hb0w
  unfold wayC at *
  go_enter Tryz.func22, Tryz.ntmps22
  go_wp2_with (go_at_call 41; refine (HC.out tk.x tk.l tk.a tk.c _ HB0W.out HT.out).mono ?_; rintro e w1 ⟨a', c', rfl, hs1, hb1, hzz⟩; clear hzz; have HS1 : Hid (SepTm w1 (fun q => w.heap.size + 2 ≤ q) tk.x a' c' tk.l) := hid (hs1.mono (fun q hq => by have := hsz.out; unfold wayC at this; omega)); have HB1 := hid (HB0.out.trans (hb1.mono HB0.out.size)); have X1 := HX.out.below hb1; have HX1 := hid X1; have Y1 := HY.out.below hb1; have HY1 := hid Y1; have HSZ1 : Hid (w.heap.size + 2 ≤ w1.heap.size) := hid (by have := hb1.size; have := hsz.out; unfold wayC at this; omega); have y0 := X1.c 0; have y1 := X1.c 1; have y2 := X1.c 2; have y3 := X1.c 3; have y4 := X1.c 4; have y5 := X1.c 5; have y6 := X1.c 6; have g2 := X1.f 2; have g3 := X1.f 3; have g4 := X1.f 4; clear hs1 hb1 X1 Y1)
  have C0 := hid (cl_start HW.out hbw HB1.out HSZ1.out HX1.out HY1.out HROW.out HS1.out)
  generalize ((w1.setCell ⟨w.heap.size, 2, none⟩ (.string tk.x.1)).setCell ⟨w.heap.size, 3, none⟩ (.int .i64 tk.x.2)).setCell ⟨w.heap.size, 4, none⟩ (.slice a' (lenF tk.l) c') = w2 at C0 ⊢
  clear y0 y1 y2 y3 y4 y5 y6 g2 g3 g4 HX1 HY1 HB1 HSZ1 HS1 HX HY HB0 HB0W hsz
  have HWS : Hid (wt.heap.size ≤ w.heap.size) := hid HW.out.size
  have HRG : Hid (∀ q, la = some ⟨q, 0, none⟩ → q < w.heap.size) := hid (fun q hq => by
    rcases HROW.out with ⟨_, h, _⟩ | ⟨g, h1, _, _, h4⟩
    · rw [h] at hq; cases hq
    · rw [h1] at hq; cases hq; exact h4.lt)
  go_loopw [14] (fun i wr => ∃ (j : Nat) (ds : List Kv), j ≤ n ∧ i = .int .i64 j ∧ ClSt base wt w act bv sym la n lc ks ⟨tk.x, tk.l, a', c'⟩ j ds wr) (fun i _ => n - (intOf i).toNat)
  case atStart => exact ⟨0, [], Nat.zero_le _, rfl, C0.out⟩
  case round =>
    obtain ⟨j, ds, hj, rfl, hc⟩ := hrel
    have HCL := hid hc
    clear C0
    by_cases hlt : j < n
    · obtain ⟨g, hgl, hgb, hgc, hge⟩ : ∃ g, la = some ⟨g, 0, none⟩ ∧ base ≤ g ∧ lc = n ∧ EqRow wr g n (ds ++ ks.drop (2 * j)) := by
        rcases hc.row with h | h
        · omega
        · exact h
      subst hgl hgc
      obtain ⟨k1, k2, hd⟩ : ∃ k1 k2, ks.drop (2 * j) = k1 :: k2 :: ks.drop (2 * (j + 1)) := ⟨ks[2 * j]'(by have := HKL.out; omega), ks[2 * j + 1]'(by have := HKL.out; omega), by
        rw [List.drop_eq_getElem_cons (by have := HKL.out; omega), List.drop_eq_getElem_cons (by have := HKL.out; omega)]; rfl⟩
      have hm1 : k1 ∈ ks := List.mem_of_mem_drop (by rw [hd]; simp)
      have hm2 : k2 ∈ ks := List.mem_of_mem_drop (by rw [hd]; simp)
      have HD := hid hd
      rw [hd] at hge
      have p0 : wr.cell? ⟨g, j * 6, none⟩ = some (.string k1.x.1) := hge.at (mid_cell _ _ _ _ j 0 hc.len)
      have p1 : wr.cell? ⟨g, j * 6 + 1, none⟩ = some (.int .i64 k1.x.2) := hge.at (mid_cell _ _ _ _ j 1 hc.len)
      have p2 : wr.cell? ⟨g, j * 6 + 2, none⟩ = some (.slice k1.a (lenF k1.l) k1.c) := hge.at (mid_cell _ _ _ _ j 2 hc.len)
      have p3 : wr.cell? ⟨g, j * 6 + 3, none⟩ = some (.string k2.x.1) := hge.at (mid_cell _ _ _ _ j 3 hc.len)
      have p4 : wr.cell? ⟨g, j * 6 + 4, none⟩ = some (.int .i64 k2.x.2) := hge.at (mid_cell _ _ _ _ j 4 hc.len)
      have p5 : wr.cell? ⟨g, j * 6 + 5, none⟩ = some (.slice k2.a (lenF k2.l) k2.c) := hge.at (mid_cell _ _ _ _ j 5 hc.len)
      obtain ⟨⟨x1n, x1s⟩, l1, a1, c1⟩ := k1
      obtain ⟨⟨x2n, x2s⟩, l2, a2, c2⟩ := k2
      dsimp only at p0 p1 p2 p3 p4 p5
      have z5 : wr.cell? ⟨w.heap.size, 5, none⟩ = some (.slice (some ⟨g, 0, none⟩) lc lc) := hc.b.c 5
      have HA1 := hid (HTS.out _ hm1); have HA2 := hid (HTS.out _ hm2)
      have HGE := hid hge
      have hk0 : (0 : Int) ≤ (j : Int) := by omega
      have hkn : (j : Int) < (lc : Int) := by omega
      obtain ⟨E, hE⟩ : ∃ E, wr.alloc (.cells #[.string x1n, .int .i64 x1s, .slice a1 (lenF l1) c1, .string x2n, .int .i64 x2s, .slice a2 (lenF l2) c2] 28) = E := ⟨_, rfl⟩
      have hbE : Below wr.heap.size wr E := by rw [← hE]; exact alloc_below0 wr _
      have bE : Box E wr.heap.size 28 #[.string x1n, .int .i64 x1s, .slice a1 (lenF l1) c1, .string x2n, .int .i64 x2s, .slice a2 (lenF l2) c2] := by rw [← hE]; exact Box.new wr 28 _
      have CE := hid (HCL.out.below hbE hbw (by have := HCL.out.big; have := HWS.out; omega))
      have HGL : Hid (g < wr.heap.size) := hid hge.lt
      have HGN : Hid (g < w.heap.size) := hid (HRG.out g rfl)
      have GE := hid (hge.below hbE)
      have HBE := hid hbE; have BE := hid bE
      have hS0 : E.cell? ⟨w.heap.size, 5, none⟩ = some (.slice (some ⟨g, 0, none⟩) lc lc) ∧ E.cell? ⟨wr.heap.size, 0, none⟩ = some (.string x1n) ∧ E.cell? ⟨wr.heap.size, 1, none⟩ = some (.int .i64 x1s) ∧ E.cell? ⟨wr.heap.size, 2, none⟩ = some (.slice a1 (lenF l1) c1) ∧ E.cell? ⟨wr.heap.size, 3, none⟩ = some (.string x2n) ∧ E.cell? ⟨wr.heap.size, 4, none⟩ = some (.int .i64 x2s) ∧ E.cell? ⟨wr.heap.size, 5, none⟩ = some (.slice a2 (lenF l2) c2) :=
        ⟨below_cell hbE _ _ z5, bE.c 0, bE.c 1, bE.c 2, bE.c 3, bE.c 4, bE.c 5⟩
      have HS0 := hid hS0
      have HSB : Hid (∀ W, Below E.heap.size E W → W.cell? ⟨w.heap.size, 5, none⟩ = some (.slice (some ⟨g, 0, none⟩) lc lc) ∧ W.cell? ⟨wr.heap.size, 0, none⟩ = some (.string x1n) ∧ W.cell? ⟨wr.heap.size, 1, none⟩ = some (.int .i64 x1s) ∧ W.cell? ⟨wr.heap.size, 2, none⟩ = some (.slice a1 (lenF l1) c1) ∧ W.cell? ⟨wr.heap.size, 3, none⟩ = some (.string x2n) ∧ W.cell? ⟨wr.heap.size, 4, none⟩ = some (.int .i64 x2s) ∧ W.cell? ⟨wr.heap.size, 5, none⟩ = some (.slice a2 (lenF l2) c2)) := hid (fun W hW => by
        obtain ⟨h0, h1, h2, h3, h4, h5, h6⟩ := HS0.out
        exact ⟨below_cell hW _ _ h0, below_cell hW _ _ h1, below_cell hW _ _ h2, below_cell hW _ _ h3, below_cell hW _ _ h4, below_cell hW _ _ h5, below_cell hW _ _ h6⟩)
      have H1 := hid fun (W : World) (hW : Below E.heap.size E W) => HC.out (x1n, x1s) l1 a1 c1 W (CE.out.old.trans (hW.mono (by have := CE.out.big; have := HWS.out; omega))) HA1.out
      have H2 := hid fun (W : World) (hW : Below E.heap.size E W) => HC.out (x2n, x2s) l2 a2 c2 W (CE.out.old.trans (hW.mono (by have := CE.out.big; have := HWS.out; omega))) HA2.out
      clear hc hd hm1 hm2 hge hbE bE hS0
      go_upto_region 5 with fail

      clear hE p0 p1 p2 p3 p4 p5 z5
      have HSB2 : Hid (∀ W, Below E.heap.size E W → ∀ k1 k2 : Kv, (set6 W g (j * 6) k1 k2).cell? ⟨w.heap.size, 5, none⟩ = some (.slice (some ⟨g, 0, none⟩) lc lc) ∧ (set6 W g (j * 6) k1 k2).cell? ⟨wr.heap.size, 0, none⟩ = some (.string x1n) ∧ (set6 W g (j * 6) k1 k2).cell? ⟨wr.heap.size, 1, none⟩ = some (.int .i64 x1s) ∧ (set6 W g (j * 6) k1 k2).cell? ⟨wr.heap.size, 2, none⟩ = some (.slice a1 (lenF l1) c1) ∧ (set6 W g (j * 6) k1 k2).cell? ⟨wr.heap.size, 3, none⟩ = some (.string x2n) ∧ (set6 W g (j * 6) k1 k2).cell? ⟨wr.heap.size, 4, none⟩ = some (.int .i64 x2s) ∧ (set6 W g (j * 6) k1 k2).cell? ⟨wr.heap.size, 5, none⟩ = some (.slice a2 (lenF l2) c2)) := hid (fun W hW k1 k2 => by
        obtain ⟨h0, h1, h2, h3, h4, h5, h6⟩ := HSB.out W hW
        have n1 : w.heap.size ≠ g := by have := HGN.out; omega
        have n2 : wr.heap.size ≠ g := by have := HGL.out; omega
        rw [set6_cell n1, set6_cell n2, set6_cell n2, set6_cell n2, set6_cell n2, set6_cell n2, set6_cell n2]
        exact ⟨h0, h1, h2, h3, h4, h5, h6⟩)
      have HNOW := hid (HSB.out E.drew (Below.refl E.heap.size E).drew)
      go_region_held3 (fun w' => w'.cell? ⟨w.heap.size, 5, none⟩ = some (.slice (some ⟨g, 0, none⟩) lc lc) ∧ w'.cell? ⟨wr.heap.size, 0, none⟩ = some (.string x1n) ∧ w'.cell? ⟨wr.heap.size, 1, none⟩ = some (.int .i64 x1s) ∧ w'.cell? ⟨wr.heap.size, 2, none⟩ = some (.slice a1 (lenF l1) c1) ∧ w'.cell? ⟨wr.heap.size, 3, none⟩ = some (.string x2n) ∧ w'.cell? ⟨wr.heap.size, 4, none⟩ = some (.int .i64 x2s) ∧ w'.cell? ⟨wr.heap.size, 5, none⟩ = some (.slice a2 (lenF l2) c2)) ((first
        | (with_reducible exact HNOW.out)
        | (with_reducible exact HS0.out)
        | exact HSS.out
        | fail)) ((first
        | (go_at_call 41; (with_reducible refine Calls.mono (H2.out _ HB1.out) ?_); rintro e v2 ⟨a4, c4, rfl, hs2, hb2, hzz⟩; clear hzz; have HS2 := hid hs2; have HB12 := hid hb2; have HB2 : Hid (Below E.heap.size E v2) := hid (HB1.out.trans (hb2.mono HB1.out.size)); have GE2 := GE.out.below HB2.out; have f0 := GE2.frozen (j * 6); have f1 := GE2.frozen (j * 6 + 1); have f2 := GE2.frozen (j * 6 + 2); have f3 := GE2.frozen (j * 6 + 3); have f4 := GE2.frozen (j * 6 + 4); have f5 := GE2.frozen (j * 6 + 5); obtain ⟨t0, y0⟩ := GE2.cell (i := j * 6) (by omega); obtain ⟨t1, y1⟩ := GE2.cell (i := j * 6 + 1) (by omega); obtain ⟨t2, y2⟩ := GE2.cell (i := j * 6 + 2) (by omega); obtain ⟨t3, y3⟩ := GE2.cell (i := j * 6 + 3) (by omega); obtain ⟨t4, y4⟩ := GE2.cell (i := j * 6 + 4) (by omega); obtain ⟨t5, y5⟩ := GE2.cell (i := j * 6 + 5) (by omega); have HGE2 := hid GE2; clear HNOW; have HNOW := hid (HSB.out v2 HB2.out); have HSS := hid (HSB2.out v2 HB2.out ⟨(x1n, x1s), l1, a3, c3⟩ ⟨(x2n, x2s), l2, a4, c4⟩); clear hs2 hb2 GE2)
        | (go_at_call 41; (with_reducible refine Calls.mono (H1.out _ (Below.refl _ E).drew) ?_); rintro e v1 ⟨a3, c3, rfl, hs1, hb1, hzz⟩; clear hzz; have HS1 := hid hs1; have HB1 : Hid (Below E.heap.size E v1) := hid (((Below.refl _ E).drew).trans hb1); have HNOW := hid (HSB.out v1 HB1.out); clear hs1 hb1)
        | fail))
      all_goals
        have HNX := hid (cl_step (k1 := ⟨(x1n, x1s), l1, a3, c3⟩) (k2 := ⟨(x2n, x2s), l2, a4, c4⟩) CE.out hbw hbs hgb HGN.out hlt GE.out HD.out rfl rfl HB1.out HS1.out HB12.out HS2.out)
        clear HSS HNOW y0 y1 y2 y3 y4 y5 f0 f1 f2 f3 f4 f5
        go_wp2_with fail
        go_roundw
        case rel => exact ⟨j + 1, ds ++ [(⟨(x1n, x1s), l1, a3, c3⟩ : Kv), ⟨(x2n, x2s), l2, a4, c4⟩], by omega, by go_num, HNX.out⟩
        case measure => simp [intOf]; omega
    · have e1 : j = n := by omega
      subst e1
      have z0 := hc.b.c 0; have z1 := hc.b.c 1; have z2 := hc.b.c 2; have z3 := hc.b.c 3; have z4 := hc.b.c 4; have z5 := hc.b.c 5; have z6 := hc.b.c 6
      have r0 := hc.z.c 0; have r1 := hc.z.c 1; have r2 := hc.z.c 2; have r3 := hc.z.c 3; have r4 := hc.z.c 4; have r5 := hc.z.c 5; have r6 := hc.z.c 6
      have g0 := hc.z.f 0; have g1 := hc.z.f 1; have g2 := hc.z.f 2; have g3 := hc.z.f 3; have g4 := hc.z.f 4; have g5 := hc.z.f 5; have g6 := hc.z.f 6
      unfold wayC at z0 z1 z2 z3 z4 z5 z6
      clear hc
      go_wp2_with fail
      refine bodyPost_ret (results_cell_row rfl _ _ (w.heap.size + 1) 41 (wayC act bv tk.x a' (lenF tk.l) c' la j lc sym) (0, 0) _ rfl (box7_all HCL.out.z _ _ _ _ _ _ _) Tryz.underlying41 rfl Tryz.size41) rfl ?_
      exact cl_end HCL.out hbw HKL.out HKS.out HTK.out HNN.out HRG.out
end Go.Proofs.YtfnfbljijkjkjaaGreat
