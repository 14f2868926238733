import Derived.Test.YtfnfbljijkjkjaaGreatKSoB
/- Rows of equations in memory; sideBySide of the program. -/
namespace Go.Proofs.YtfnfbljijkjkjaaGreat
open Go.RowKit Go.Deep

def flatL (ls : List (Tn × Tn)) : List Tn := ls.flatMap fun p => [p.1, p.2]
theorem flat_len (ls : List (Tn × Tn)) : (flatL ls).length = 2 * ls.length := by
  induction ls with
  | nil => rfl
  | cons p r ih => simp only [flatL, List.flatMap_cons, List.length_append, List.length_cons, List.length_nil] at ih ⊢; omega
theorem flat_snoc (ls : List (Tn × Tn)) (p : Tn × Tn) : flatL (ls ++ [p]) = flatL ls ++ [p.1, p.2] := by simp [flatL]
/-- n equations' cells lie in block g; of the first ones the terms are these, side by side. -/
def EqRow (w : World) (g n : Nat) (ks : List Kv) : Prop := ∃ cur, w.heap[g]? = some (Obj.cells cur 28 (0, 0)) ∧ cur.size = n * 6 ∧ ∀ (i : Nat) (u : Value), (kvCells ks)[i]? = some u → cur[i]? = some u
theorem EqRow.lt {w : World} {g n : Nat} {ks : List Kv} (h : EqRow w g n ks) : g < w.heap.size := by
  obtain ⟨cur, h1, _⟩ := h; exact (Array.getElem?_eq_some_iff.1 h1).1
theorem EqRow.keep {w w' : World} {g n : Nat} {ks : List Kv} (h : EqRow w g n ks) (hb : w'.heap[g]? = w.heap[g]?) : EqRow w' g n ks := by
  obtain ⟨cur, h1, h2⟩ := h; exact ⟨cur, hb.trans h1, h2⟩
theorem Box.drew {W : World} {B : Nat} {T : TypeId} {cs : Array Value} (h : Box W B T cs) : Box W.drew B T cs := h
theorem EqRow.drew {w : World} {g n : Nat} {ks : List Kv} (h : EqRow w g n ks) : EqRow w.drew g n ks := h
theorem EqRow.below {w w' : World} {g n : Nat} {ks : List Kv} (h : EqRow w g n ks) (hb : Below w.heap.size w w') : EqRow w' g n ks := h.keep (hb.block g h.lt)
theorem EqRow.cell {w : World} {g n : Nat} {ks : List Kv} (h : EqRow w g n ks) {i : Nat} (hi : i < n * 6) : ∃ v, w.cell? ⟨g, i, none⟩ = some v := by
  obtain ⟨cur, h1, h2, _⟩ := h
  exact ⟨cur[i]'(by omega), by rw [cell_of_row w g i cur 28 (0, 0) h1]; simp [show i < cur.size by omega]⟩
theorem EqRow.frozen {w : World} {g n : Nat} {ks : List Kv} (h : EqRow w g n ks) (i : Nat) : w.frozen? ⟨g, i, none⟩ = false := by
  obtain ⟨cur, h1, _⟩ := h
  simp [World.frozen?, h1]
theorem EqRow.at {w : World} {g n : Nat} {ks : List Kv} (h : EqRow w g n ks) {i : Nat} {u : Value} (hu : (kvCells ks)[i]? = some u) : w.cell? ⟨g, i, none⟩ = some u := by
  obtain ⟨cur, h1, _, h3⟩ := h
  rw [cell_of_row w g i cur 28 (0, 0) h1]; exact h3 i u hu
theorem kv_at : ∀ (ks : List Kv) (i : Nat) (h : i < ks.length), (kvCells ks)[i * 3]? = some (.string ks[i].x.1) ∧ (kvCells ks)[i * 3 + 1]? = some (.int .i64 ks[i].x.2) ∧ (kvCells ks)[i * 3 + 2]? = some (.slice ks[i].a (lenF ks[i].l) ks[i].c)
  | [], i, h => absurd h (by simp)
  | k :: r, 0, _ => ⟨rfl, rfl, rfl⟩
  | k :: r, i + 1, h => by
    have ih := kv_at r i (by simpa using h)
    have e : kvCells (k :: r) = .string k.x.1 :: .int .i64 k.x.2 :: .slice k.a (lenF k.l) k.c :: kvCells r := rfl
    rw [e, show (i + 1) * 3 = i * 3 + 1 + 1 + 1 by omega, show i * 3 + 1 + 1 + 1 + 1 = (i * 3 + 1) + 1 + 1 + 1 by omega, show i * 3 + 1 + 1 + 1 + 2 = (i * 3 + 2) + 1 + 1 + 1 by omega]
    simp only [List.getElem?_cons_succ, List.getElem_cons_succ]
    exact ih
/-- Six cells stored. -/
def set6 (W : World) (g o : Nat) (k1 k2 : Kv) : World := (((((W.setCell ⟨g, o, none⟩ (.string k1.x.1)).setCell ⟨g, o + 1, none⟩ (.int .i64 k1.x.2)).setCell ⟨g, o + 2, none⟩ (.slice k1.a (lenF k1.l) k1.c)).setCell ⟨g, o + 3, none⟩ (.string k2.x.1)).setCell ⟨g, o + 4, none⟩ (.int .i64 k2.x.2)).setCell ⟨g, o + 5, none⟩ (.slice k2.a (lenF k2.l) k2.c)
theorem set6_far {W : World} {g q : Nat} (h : q ≠ g) (o : Nat) (k1 k2 : Kv) : (set6 W g o k1 k2).heap[q]? = W.heap[q]? :=
  (((((Below.heap_setCell _ _ _ _ h).trans (Below.heap_setCell _ _ _ _ h)).trans (Below.heap_setCell _ _ _ _ h)).trans (Below.heap_setCell _ _ _ _ h)).trans (Below.heap_setCell _ _ _ _ h)).trans (Below.heap_setCell _ _ _ _ h)
theorem set6_size (W : World) (g o : Nat) (k1 k2 : Kv) : (set6 W g o k1 k2).heap.size = W.heap.size := by simp [set6]
theorem set6_below {n0 : Nat} {w W : World} {g : Nat} (hb : Below n0 w W) (h : n0 ≤ g) (o : Nat) (k1 k2 : Kv) : Below n0 w (set6 W g o k1 k2) :=
  (((((hb.setCell (p := ⟨g, o, none⟩) h _).setCell (p := ⟨g, o + 1, none⟩) h _).setCell (p := ⟨g, o + 2, none⟩) h _).setCell (p := ⟨g, o + 3, none⟩) h _).setCell (p := ⟨g, o + 4, none⟩) h _).setCell (p := ⟨g, o + 5, none⟩) h _
theorem set6_row {W : World} {g o : Nat} {cur : Array Value} {t : TypeId} (h : W.heap[g]? = some (Obj.cells cur t (0, 0))) (k1 k2 : Kv) : ∃ cur', (set6 W g o k1 k2).heap[g]? = some (Obj.cells cur' t (0, 0)) ∧ cur'.size = cur.size ∧
    ∀ i, cur'[i]? = if o ≤ i ∧ i < o + 6 ∧ i < cur.size then (kvCells [k1, k2])[i - o]? else cur[i]? := by
  refine ⟨_, block_set (block_set (block_set (block_set (block_set (block_set h _) _) _) _) _) _, by simp, fun i => ?_⟩
  simp only [Array.getElem?_setIfInBounds, Array.size_setIfInBounds]
  have e : kvCells [k1, k2] = [.string k1.x.1, .int .i64 k1.x.2, .slice k1.a (lenF k1.l) k1.c, .string k2.x.1, .int .i64 k2.x.2, .slice k2.a (lenF k2.l) k2.c] := rfl
  by_cases hin : o ≤ i ∧ i < o + 6 ∧ i < cur.size
  · rw [if_pos hin, e]
    have hc : i = o ∨ i = o + 1 ∨ i = o + 2 ∨ i = o + 3 ∨ i = o + 4 ∨ i = o + 5 := by omega
    rcases hc with rfl | rfl | rfl | rfl | rfl | rfl
    · rw [if_neg (by omega), if_neg (by omega), if_neg (by omega), if_neg (by omega), if_neg (by omega), if_pos rfl, if_pos (by omega)]; simp
    · rw [if_neg (by omega), if_neg (by omega), if_neg (by omega), if_neg (by omega), if_pos rfl, if_pos (by omega), show o + 1 - o = 1 by omega]; rfl
    · rw [if_neg (by omega), if_neg (by omega), if_neg (by omega), if_pos rfl, if_pos (by omega), show o + 2 - o = 2 by omega]; rfl
    · rw [if_neg (by omega), if_neg (by omega), if_pos rfl, if_pos (by omega), show o + 3 - o = 3 by omega]; rfl
    · rw [if_neg (by omega), if_pos rfl, if_pos (by omega), show o + 4 - o = 4 by omega]; rfl
    · rw [if_pos rfl, if_pos (by omega), show o + 5 - o = 5 by omega]; rfl
  · rw [if_neg hin]
    by_cases hs : i < cur.size
    · rw [if_neg (by omega), if_neg (by omega), if_neg (by omega), if_neg (by omega), if_neg (by omega), if_neg (by omega)]
    · have hn : cur[i]? = none := Array.getElem?_eq_none (by omega)
      rw [hn]
      (repeat' split) <;> first | rfl | omega
theorem kvCells_app (a b : List Kv) : kvCells (a ++ b) = kvCells a ++ kvCells b := by simp [kvCells]
/-- One more is stored behind those that are there. -/
theorem EqRow.push {w : World} {g n : Nat} {ks : List Kv} (h : EqRow w g n ks) {o : Nat} (ho : o = ks.length * 3) (hlt : o + 6 ≤ n * 6) (k1 k2 : Kv) : EqRow (set6 w g o k1 k2) g n (ks ++ [k1, k2]) := by
  subst ho
  obtain ⟨cur, h1, h2, h3⟩ := h
  obtain ⟨cur', g1, g2, g3⟩ := set6_row (o := ks.length * 3) h1 k1 k2
  refine ⟨cur', g1, by omega, fun i u hu => ?_⟩
  have hl := kvCells_len ks
  rw [kvCells_app] at hu
  rw [g3 i]
  by_cases hc : i < ks.length * 3
  · rw [List.getElem?_append_left (by omega)] at hu
    rw [if_neg (by omega)]; exact h3 i u hu
  · rw [List.getElem?_append_right (by omega), hl] at hu
    have hi : i - ks.length * 3 < 6 := by
      rcases Nat.lt_or_ge (i - ks.length * 3) 6 with h' | h'
      · exact h'
      · rw [List.getElem?_eq_none (by simp only [kvCells_len, List.length_cons, List.length_nil]; omega)] at hu; cases hu
    rw [if_pos (by omega)]; exact hu
/-- One is stored over. -/
theorem EqRow.put {w : World} {g n : Nat} {xs bs : List Kv} {j1 j2 : Kv} (h : EqRow w g n (xs ++ [j1, j2] ++ bs)) {o : Nat} (ho : o = xs.length * 3) (hlt : o + 6 ≤ n * 6) (k1 k2 : Kv) : EqRow (set6 w g o k1 k2) g n (xs ++ [k1, k2] ++ bs) := by
  subst ho
  obtain ⟨cur, h1, h2, h3⟩ := h
  obtain ⟨cur', g1, g2, g3⟩ := set6_row (o := xs.length * 3) h1 k1 k2
  refine ⟨cur', g1, by omega, fun i u hu => ?_⟩
  have hl := kvCells_len xs
  have hl2 : ∀ a b : Kv, (kvCells [a, b]).length = 6 := fun a b => by simp only [kvCells_len, List.length_cons, List.length_nil]
  rw [kvCells_app, kvCells_app] at hu
  rw [kvCells_app, kvCells_app] at h3
  rw [g3 i]
  by_cases hc : i < xs.length * 3
  · rw [if_neg (by omega)]
    refine h3 i u ?_
    rw [List.append_assoc, List.getElem?_append_left (by omega)] at hu ⊢
    exact hu
  · by_cases hd : i < xs.length * 3 + 6
    · rw [if_pos (by omega)]
      rw [List.getElem?_append_left (by rw [List.length_append, hl2]; omega), List.getElem?_append_right (by omega), hl] at hu
      exact hu
    · rw [if_neg (by omega)]
      refine h3 i u ?_
      rw [List.getElem?_append_right (by rw [List.length_append, hl2]; omega), List.length_append, hl2] at hu ⊢
      exact hu

/-- What look answers, in memory that is only lent, but for a row of its own. -/
structure LookAt (base : Nat) (w0 w : World) (v : Value) (W : Wy) : Prop where
  is : ∃ (tk : Kv) (ks : List Kv) (la : Option Addr) (lc : Nat), v = .agg (wayC W.act W.bv tk.x tk.a (lenF tk.l) tk.c la W.ls.length lc W.sym) ∧ tk.tn = W.t ∧ TmAt w0 tk.x tk.a tk.c tk.l ∧ ks.map Kv.tn = flatL W.ls ∧ (∀ k ∈ ks, TmAt w0 k.x k.a k.c k.l) ∧
    ((W.ls = [] ∧ la = none ∧ lc = 0) ∨ ∃ g, la = some ⟨g, 0, none⟩ ∧ base ≤ g ∧ lc = W.ls.length ∧ EqRow w g W.ls.length ks)
theorem WayAt.look {base : Nat} {w0 w : World} {v : Value} {W : Wy} (h : WayAt w0 v W) (hl : W.ls = []) : LookAt base w0 w v W := by
  obtain ⟨a, c, la, lc, h1, h2, h3⟩ := h.is
  exact ⟨⟨W.t.1, W.t.2, a, c⟩, [], la, lc, h1, rfl, h2, by rw [hl]; rfl, (by simp), .inl ⟨hl, h3 hl⟩⟩
theorem LookAt.keep {base : Nat} {w0 w w' : World} {v : Value} {W : Wy} (h : LookAt base w0 w v W) (hb : ∀ q, base ≤ q → q < w.heap.size → w'.heap[q]? = w.heap[q]?) : LookAt base w0 w' v W := by
  obtain ⟨tk, ks, la, lc, h1, h2, h3, h4, h5, h6⟩ := h.is
  refine ⟨tk, ks, la, lc, h1, h2, h3, h4, h5, ?_⟩
  rcases h6 with h6 | ⟨g, h7, h8, h9, h10⟩
  · exact .inl h6
  · exact .inr ⟨g, h7, h8, h9, h10.keep (hb g h8 h10.lt)⟩
theorem LookAt.mono {base base' : Nat} {w0 w : World} {v : Value} {W : Wy} (h : LookAt base w0 w v W) (hb : base' ≤ base) : LookAt base' w0 w v W := by
  obtain ⟨tk, ks, la, lc, h1, h2, h3, h4, h5, h6⟩ := h.is
  refine ⟨tk, ks, la, lc, h1, h2, h3, h4, h5, ?_⟩
  rcases h6 with h6 | ⟨g, h7, h8, h9, h10⟩
  · exact .inl h6
  · exact .inr ⟨g, h7, Nat.le_trans hb h8, h9, h10⟩

theorem ofVar_none (nm : ByteArray) (t : Tn) : (ofVarP nm t).ls = [] := by unfold ofVarP; split <;> rfl
theorem ofVars_none (s t : Tn) : (ofVarsP s t).ls = [] := by
  unfold ofVarsP
  split
  · rfl
  · split <;> rfl

theorem kid_at {w : World} {F : Fo} {b o k : Nat} {x : ByteArray × Int} {a : Option Addr} {c : Nat} {l : Fo} (h : Kid w F b o k x a c l) : (kidsL F)[k]? = some (x, l) := by
  obtain ⟨B, O, hd⟩ := h.split
  have h1 := kids_drop k F
  rw [hd, kidsL] at h1
  have := congrArg (·[0]?) h1
  simpa using this.symm
theorem zip_take {α : Type} {l m : List α} {j : Nat} {x y : α} (hx : l[j]? = some x) (hy : m[j]? = some y) : (l.zip m).take (j + 1) = (l.zip m).take j ++ [(x, y)] := by
  rw [List.take_add_one, show (l.zip m)[j]? = some (x, y) from List.getElem?_zip_eq_some.2 ⟨hx, hy⟩]; rfl

set_option maxRecDepth 100000 in
set_option maxHeartbeats 4000000 in
theorem sideBySide_any (x y : ByteArray × Int) (l m : Fo) (a b : Option Addr) (c d : Nat) (wt w : World) (hS0 : TmAt wt x a c l) (hT0 : TmAt wt y b d m) (hw : Below wt.heap.size wt w) (hM : nodesF l ≤ 1048576) :
    Calls Tryz.prog 45 #[.slice a (lenF l) c, .slice b (lenF m) d] w fun e w' => (∃ v, e = .returned v ∧ LookAt w.heap.size wt w' v (sideP l m)) ∧ Below w.heap.size w w' := by
  have hS := hS0.below hw
  have hT := hT0.below hw
  obtain ⟨i0, hi, hz0, hz1, hz2⟩ := info_parts Tryz.info28
  have HS := hid hS0; have HT := hid hT0; have HW := hid hw
  have hln := len_nodes l
  have hB0 := hid (alloc_below0 w (.cells zWay 41))
  have HZ := hid (Box.new w 41 zWay)
  have hsl := hS.sizes.len; have hsc := hS.sizes.cap; have htl := hT.sizes.len; have htc := hT.sizes.cap
  have hmax : maxLen = 9223372036854775807 := rfl
  clear hS hT hS0 hT0 hw
  unfold sideP
  by_cases hne : lenF l = lenF m
  · rw [if_pos hne]
    have hnb : ((lenF l : Int) == (lenF m : Int)) = true := by simp [hne]
    have HNE := hid hne
    clear hne
    go_enter Tryz.func45, Tryz.ntmps45
    go_wp2_with (at_make; refine wpList_make_full _ rfl _ _ 39 rfl w.heap.size 28 i0 (.agg #[.string ⟨#[]⟩, .int .i64 0, .slice none 0 0, .string ⟨#[]⟩, .int .i64 0, .slice none 0 0]) 6 Tryz.underlying39 hi hz0 hz1 .i64 .i64 _ _ (lenF l) rfl rfl rfl rfl (by rw [hz2]; omega) (by omega) (by simp) ?_; intro w0 hown0 hgrow0)
    have E0 : Hid (EqRow w0 (w.heap.size + 1) (lenF l) []) := by
      rcases hown0.2 with ⟨hv, _⟩ | ⟨g', cap', cur, hv, _, hh, _, _, hcs, _⟩
      · cases hv
      · cases hv
        rw [World.size_alloc] at hh
        exact ⟨cur, hh, hcs, fun i u hu => by simp [kvCells] at hu⟩
    have B0 : Hid (Below w.heap.size w w0) := hid (hB0.out.grown hgrow0 (by simp) (fun k e => by cases e))
    have Z0 : Hid (Box w0 w.heap.size 41 zWay) := hid ((hgrow0.block _ (by simp) (by simp)).trans HZ.out)
    clear hown0 hgrow0 hB0 HZ
    go_loopw [18] (fun i wr => ∃ (j : Nat) (ks : List Kv), j ≤ lenF l ∧ i = .int .i64 j ∧ ks.length = 2 * j ∧ Below w.heap.size w wr ∧ Box wr w.heap.size 41 zWay ∧ EqRow wr (w.heap.size + 1) (lenF l) ks ∧ ks.map Kv.tn = flatL (((kidsL l).zip (kidsL m)).take j) ∧ ∀ k ∈ ks, TmAt wt k.x k.a k.c k.l) (fun i _ => lenF l - (intOf i).toNat)
    case atStart => exact ⟨0, [], Nat.zero_le _, rfl, rfl, B0.out, Z0.out, E0.out, by simp [flatL], by simp⟩
    case round =>
      obtain ⟨j, ks, hj, rfl, hkl, hb, hz, he, hks, htm⟩ := hrel
      have HB := hid hb; have HZ := hid hz; have HE := hid he; have HKS := hid hks; have HTM := hid htm; have HKL := hid hkl
      clear E0 B0 Z0 hks htm hkl
      by_cases hlt : j < lenF l
      · have hlm : j < lenF m := by have := HNE.out; omega
        obtain ⟨b1, o1, rfl, hk1⟩ := HS.out.args.get (by omega)
        obtain ⟨b2, o2, rfl, hk2⟩ := HT.out.args.get (by omega)
        obtain ⟨x1, a1, c1, l1, kd0⟩ := hk1.kid (k := j) hlt
        obtain ⟨x2, a2, c2, l2, ke0⟩ := hk2.kid (k := j) hlm
        have kd := kd0.below (HW.out.trans (hb.mono HW.out.size))
        have ke := ke0.below (HW.out.trans (hb.mono HW.out.size))
        have p0 : wr.drew.cell? ⟨b1, o1 + j * 3, none⟩ = _ := kd.name
        have p1 : wr.drew.cell? ⟨b1, o1 + j * 3 + 1, none⟩ = _ := kd.sym
        have p2 : wr.drew.cell? ⟨b1, o1 + j * 3 + 2, none⟩ = _ := kd.list
        have q0 : wr.drew.cell? ⟨b2, o2 + j * 3, none⟩ = _ := ke.name
        have q1 : wr.drew.cell? ⟨b2, o2 + j * 3 + 1, none⟩ = _ := ke.sym
        have q2 : wr.drew.cell? ⟨b2, o2 + j * 3 + 2, none⟩ = _ := ke.list
        obtain ⟨u0, v0⟩ := he.cell (i := j * 6) (by omega)
        obtain ⟨u1, v1⟩ := he.cell (i := j * 6 + 1) (by omega)
        obtain ⟨u2, v2⟩ := he.cell (i := j * 6 + 2) (by omega)
        obtain ⟨u3, v3⟩ := he.cell (i := j * 6 + 3) (by omega)
        obtain ⟨u4, v4⟩ := he.cell (i := j * 6 + 4) (by omega)
        obtain ⟨u5, v5⟩ := he.cell (i := j * 6 + 5) (by omega)
        have w0 : wr.drew.cell? ⟨w.heap.size + 1, j * 6, none⟩ = _ := v0
        have w1 : wr.drew.cell? ⟨w.heap.size + 1, j * 6 + 1, none⟩ = _ := v1
        have w2 : wr.drew.cell? ⟨w.heap.size + 1, j * 6 + 2, none⟩ = _ := v2
        have w3 : wr.drew.cell? ⟨w.heap.size + 1, j * 6 + 3, none⟩ = _ := v3
        have w4 : wr.drew.cell? ⟨w.heap.size + 1, j * 6 + 4, none⟩ = _ := v4
        have w5 : wr.drew.cell? ⟨w.heap.size + 1, j * 6 + 5, none⟩ = _ := v5
        have f0 : wr.drew.frozen? ⟨w.heap.size + 1, j * 6, none⟩ = false := he.frozen _
        have f1 : wr.drew.frozen? ⟨w.heap.size + 1, j * 6 + 1, none⟩ = false := he.frozen _
        have f2 : wr.drew.frozen? ⟨w.heap.size + 1, j * 6 + 2, none⟩ = false := he.frozen _
        have f3 : wr.drew.frozen? ⟨w.heap.size + 1, j * 6 + 3, none⟩ = false := he.frozen _
        have f4 : wr.drew.frozen? ⟨w.heap.size + 1, j * 6 + 4, none⟩ = false := he.frozen _
        have f5 : wr.drew.frozen? ⟨w.heap.size + 1, j * 6 + 5, none⟩ = false := he.frozen _
        have hk0 : (0 : Int) ≤ (j : Int) := by omega
        have hkn : (j : Int) < (lenF l : Int) := by omega
        have hkm : (j : Int) < (lenF m : Int) := by omega
        have e0 : wr.frozen? ⟨w.heap.size + 1, j * 6, none⟩ = false := he.frozen _
        have e1 : wr.frozen? ⟨w.heap.size + 1, j * 6 + 1, none⟩ = false := he.frozen _
        have e2 : wr.frozen? ⟨w.heap.size + 1, j * 6 + 2, none⟩ = false := he.frozen _
        have e3 : wr.frozen? ⟨w.heap.size + 1, j * 6 + 3, none⟩ = false := he.frozen _
        have e4 : wr.frozen? ⟨w.heap.size + 1, j * 6 + 4, none⟩ = false := he.frozen _
        have e5 : wr.frozen? ⟨w.heap.size + 1, j * 6 + 5, none⟩ = false := he.frozen _
        have NB : Hid (Below w.heap.size w (set6 wr (w.heap.size + 1) (j * 6) ⟨x1, l1, a1, c1⟩ ⟨x2, l2, a2, c2⟩).drew) := hid (set6_below hb (by omega) _ _ _).drew
        have nz : Box (set6 wr (w.heap.size + 1) (j * 6) ⟨x1, l1, a1, c1⟩ ⟨x2, l2, a2, c2⟩) w.heap.size 41 zWay := (set6_far (by omega) _ _ _).trans hz
        have NZ := hid nz.drew
        have NE := hid (EqRow.drew (he.push (o := j * 6) (by have := HKL.out; omega) (by omega) ⟨x1, l1, a1, c1⟩ ⟨x2, l2, a2, c2⟩))
        clear nz
        have NL : Hid ((ks ++ [(⟨x1, l1, a1, c1⟩ : Kv), ⟨x2, l2, a2, c2⟩]).length = 2 * (j + 1)) := hid (by rw [List.length_append, HKL.out]; rfl)
        have NK : Hid ((ks ++ [(⟨x1, l1, a1, c1⟩ : Kv), ⟨x2, l2, a2, c2⟩]).map Kv.tn = flatL (((kidsL l).zip (kidsL m)).take (j + 1))) := hid (by
          rw [List.map_append, HKS.out, zip_take (kid_at kd) (kid_at ke), flat_snoc]; rfl)
        have NT : Hid (∀ k ∈ ks ++ [(⟨x1, l1, a1, c1⟩ : Kv), ⟨x2, l2, a2, c2⟩], TmAt wt k.x k.a k.c k.l) := hid (fun k hk => by
          rcases List.mem_append.1 hk with hk | hk
          · exact HTM.out k hk
          · simp only [List.mem_cons, List.not_mem_nil, or_false] at hk
            rcases hk with rfl | rfl
            · exact kd0.at_
            · exact ke0.at_)
        clear hb hz he kd ke kd0 ke0 hk1 hk2
        go_upto_region 7 with fail
        go_region
        all_goals
          go_wp2_with fail
          go_roundw
          case rel =>
            exact ⟨j + 1, ks ++ [(⟨x1, l1, a1, c1⟩ : Kv), ⟨x2, l2, a2, c2⟩], by omega, by go_num, NL.out, NB.out, NZ.out, NE.out, NK.out, NT.out⟩
          case measure => simp [intOf]; omega
      · have e1 : j = lenF l := by omega
        have r0 := hz.c 0; have r1 := hz.c 1; have r2 := hz.c 2; have r3 := hz.c 3; have r4 := hz.c 4; have r5 := hz.c 5; have r6 := hz.c 6
        have g0 := hz.f 0; have g1 := hz.f 1; have g2 := hz.f 2; have g3 := hz.f 3; have g4 := hz.f 4; have g5 := hz.f 5; have g6 := hz.f 6
        have hzl : ((kidsL l).zip (kidsL m)).length = lenF l := by rw [List.length_zip, kids_len, kids_len, ← HNE.out]; simp
        have HZL := hid hzl
        have hfull : ks.map Kv.tn = flatL ((kidsL l).zip (kidsL m)) := by rw [HKS.out, List.take_of_length_le (by omega)]
        have HF := hid hfull
        have HJ := hid hlt
        have HE1 := hid e1
        clear hb hz he hzl hfull e1
        go_wp2_with fail
        refine bodyPost_ret (results_cell_row rfl _ _ w.heap.size 41 (wayC 4 noS (noS, 0) none 0 0 (some ⟨w.heap.size + 1, 0, none⟩) (lenF l) (lenF l) 0) (0, 0) _ rfl (box7_all HZ.out _ _ _ _ _ _ _) Tryz.underlying41 rfl Tryz.size41) rfl ?_
        have hB := sets7_below (B := w.heap.size) HB.out (by omega) (.int .i64 4) (.string noS) (.string noS) (.int .i64 0) (.slice none 0 0) (.slice (some ⟨w.heap.size + 1, 0, none⟩) (lenF l) (lenF l)) (.int .i64 0)
        have hE := HE.out.keep (sets7_far (W := wr) (B := w.heap.size) (q := w.heap.size + 1) (by omega) (.int .i64 4) (.string noS) (.string noS) (.int .i64 0) (.slice none 0 0) (.slice (some ⟨w.heap.size + 1, 0, none⟩) (lenF l) (lenF l)) (.int .i64 0))
        refine ⟨⟨_, rfl, ⟨⟨(noS, 0), .nil, none, 0⟩, ks, some ⟨w.heap.size + 1, 0, none⟩, lenF l, ?_, rfl, zT_at _, HF.out, HTM.out, .inr ⟨w.heap.size + 1, rfl, by omega, by rw [HZL.out], by rw [HZL.out]; exact hE⟩⟩⟩, hB⟩
        rw [HZL.out]; rfl
  · rw [if_neg hne]
    have hnb : ((lenF l : Int) == (lenF m : Int)) = false := by simp; omega
    clear hne
    go_enter Tryz.func45, Tryz.ntmps45
    go_wp2_with fail
    refine bodyPost_ret (results_cell_row rfl _ _ w.heap.size 41 (wayC 2 noS (noS, 0) none 0 0 none 0 0 0) (0, 0) _ rfl (Box.new w 41 _) Tryz.underlying41 rfl Tryz.size41) rfl ?_
    exact ⟨⟨_, rfl, WayAt.look (W := actW 2) ⟨none, 0, none, 0, rfl, zT_at _, fun _ => ⟨rfl, rfl⟩⟩ rfl⟩, alloc_below0 w _⟩
end Go.Proofs.YtfnfbljijkjkjaaGreat
