/- Rows of terms that are written within: Insert. -/
import Derived.Test.YtokbgbbkopmngaaGreatPSep
import Derived.Test.YtokbgbbkopmngaaGreatTSpoil
import Derived.Laws.CopyRow
import Derived.Laws.IdiomCopy
import Derived.Lib.SliceRun
import Derived.Deep.RegionLaw
import Derived.Shelf.RegionOpenPlain
import Derived.Lib.Overlaps
import Derived.Laws.Externs
import Derived.Lib.AppendZerosOnto
import Derived.Laws.NewBlocks
import Derived.Lib.JoinLaws
import Derived.Deep.AppendLies
namespace Go.Proofs.YtokbgbbkopmngaaGreat
open Go.RowKit Go.Deep

theorem hid {p : Prop} (h : p) : Hid p := h
theorem cell_box {W : World} {b i : Nat} {T : TypeId} {cs : Array Value} {v : Value} (h : W.heap[b]? = some (.cells cs T (0, 0))) (hv : cs[i]? = some v) : W.cell? ⟨b, i, none⟩ = some v := by simp [World.cell?, h, hv]
theorem alloc_below0 (W : World) (o : Obj) : Below W.heap.size W (W.alloc o) := (Below.refl _ _).alloc (Nat.le_refl _) _
theorem kvD (l : List Kv) (i : Nat) : (kvCells l).drop (i * 3) = kvCells (l.drop i) := (kvCells_drop l i).symm
theorem kvT (l : List Kv) (i : Nat) : (kvCells l).take (i * 3) = kvCells (l.take i) := (kvCells_take l i).symm
theorem set_far {W : World} {g i q : Nat} (h : q ≠ g) (a : Value) : (W.setCell ⟨g, i, none⟩ a).heap[q]? = W.heap[q]? := Below.heap_setCell W ⟨g, i, none⟩ a q h
/-- A row, written over from a place on. -/
def ovr (cur : List Value) (o : Nat) (vs : List Value) : List Value := cur.take o ++ vs ++ cur.drop (o + vs.length)
theorem ovr_len {cur : List Value} {o : Nat} {vs : List Value} (h : o + vs.length ≤ cur.length) : (ovr cur o vs).length = cur.length := by
  unfold ovr
  simp only [List.length_append, List.length_take, List.length_drop]
  omega
theorem setCells_row {g : Nat} {t : TypeId} {fr : Nat × Nat} : ∀ (vs : List Value) (o : Nat) (W : World) (cur : Array Value), W.heap[g]? = some (.cells cur t fr) → o + vs.length ≤ cur.size → (W.setCells g o vs).heap[g]? = some (.cells (ovr cur.toList o vs).toArray t fr)
  | [], o, W, cur, h, _ => by
    show W.heap[g]? = _
    rw [h]
    unfold ovr
    simp
  | v :: r, o, W, cur, h, hl => by
    have h1 := block_set (k := o) h v
    have h2 := setCells_row r (o + 1) (W.setCell ⟨g, o, none⟩ v) _ h1 (by simp at hl ⊢; omega)
    rw [World.setCells]
    rw [h2]
    congr 3
    have hl' : o < cur.toList.length := by simp at hl ⊢; omega
    unfold ovr
    rw [Array.toList_setIfInBounds]
    have e1 : (cur.toList.set o v).take (o + 1) = cur.toList.take o ++ [v] := by
      rw [List.take_add_one, List.getElem?_set_self hl', List.take_set_of_le (Nat.le_refl _)]
      rfl
    have e2 : (cur.toList.set o v).drop (o + 1 + r.length) = cur.toList.drop (o + (v :: r).length) := by
      rw [List.drop_set_of_lt (by omega)]
      congr 1
      simp only [List.length_cons]
      omega
    rw [e1, e2]
    simp
theorem setCells_tc {g : Nat} : ∀ (vs : List Value) (o : Nat) (W : World), Fr (fun q => q = g) W (W.setCells g o vs)
  | [], _, W => Fr.refl _ W
  | v :: r, o, W => by
    rw [World.setCells]
    exact Fr.trans ⟨(Below.refl _ W).setCell (p := ⟨g, o, none⟩) (Nat.zero_le _) v, fun q _ hq => set_far hq v⟩ (setCells_tc r (o + 1) _)
/-- A row of items with room behind them. -/
structure RowV (W : World) (g cap : Nat) (l : List Kv) : Prop where
  row : ∃ cur, W.heap[g]? = some (.cells cur 26 (0, 0)) ∧ cur.size = cap * 3 ∧ cur.toList.take (l.length * 3) = kvCells l
  fits : l.length ≤ cap
  small : cap ≤ maxLen
theorem RowV.cells {W : World} {g cap : Nat} {l : List Kv} (h : RowV W g cap l) {j : Nat} {v : Value} (hv : (kvCells l)[j]? = some v) : W.cell? ⟨g, j, none⟩ = some v := by
  obtain ⟨cur, h1, h2, h3⟩ := h.row
  rw [← h3, List.getElem?_take] at hv
  split at hv
  · rw [Array.getElem?_toList] at hv
    exact cell_box h1 hv
  · cases hv
theorem RowV.any {W : World} {g cap : Nat} {l : List Kv} (h : RowV W g cap l) {j : Nat} (hj : j < cap * 3) : (W.cell? ⟨g, j, none⟩).isSome = true ∧ W.frozen? ⟨g, j, none⟩ = false := by
  obtain ⟨cur, h1, h2, _⟩ := h.row
  refine ⟨?_, by simp [World.frozen?, h1]⟩
  rw [cell_box h1 (Array.getElem?_eq_getElem (by omega : j < cur.size))]
  rfl

set_option maxRecDepth 100000 in
theorem run_copyT (w : World) (ty : TypeId) (b o dLen dCap : Nat) (a : Addr) (sLen sCap : Nat) (cs : List Value) (hn : cs.length = (Nat.min sLen dLen) * 3) (hsrc : ∀ j v, cs[j]? = some v → w.cell? (a.add j) = some v)
    (hc : ∀ j, j < cs.length → (w.cell? ⟨b, o + j, none⟩).isSome = true) (hf : ∀ j, j < cs.length → w.frozen? ⟨b, o + j, none⟩ = false) (h1 : ∀ v ∈ cs, v.oneCell' = true) :
    (Builtin.copy_ #[24, 24] ty #[.slice (some ⟨b, o, none⟩) dLen dCap, .slice (some a) sLen sCap]).run Tryz.prog w = .ok (goInt (Nat.min sLen dLen)) (w.setCells b o cs) := by
  obtain ⟨i0, hi0, hz0, hz1, hz2⟩ := info_parts Tryz.info26
  have hl := run_loadCells_list (P := Tryz.prog) w a cs hsrc
  have hst := run_storeCells_cells (P := Tryz.prog) b o cs 0 w hc hf h1
  simp only [Nat.add_zero] at hst
  simp [Builtin.copy_, run_underlying Tryz.underlying24, Builtin.lenOf, Builtin.firstCells, sizeOf, typeInfo, hi0, hz1, ← hn, hl, hst]
/-- 'copy(d, s)' in a walk, where its run is known. -/
theorem wpList_copyT (w : World) {ops : Array Oper} {rest : List Oper} {o : Oper} {a : Act} {Q : Exit → Act → World → Prop} (hgd : o.guard = none) (d s : Operand)
    (ho : o.op = .call { callee := .builtin .copy, args := #[d, s], argTypes := #[24, 24] }) (v u : Value) (hd : a.eval d = v) (hs : a.eval s = u) {v' : Value} {w' : World}
    (hr : (Builtin.copy_ #[24, 24] o.type #[v, u]).run Tryz.prog w = .ok v' w') (h : wpList Tryz.prog ops Q rest (a.put o.dst v') w') : wpList Tryz.prog ops Q (o :: rest) a w :=
  wpList_plain hgd fun _ hK => by
    unfold Oper.wp execOp
    simp only [ho, resolve, invoke, builtin, Sem.run_bind, Sem.run_pure, Result.andThen_ok, List.map_toArray, List.map_cons, List.map_nil, hd, hs, hr]
    exact hK _ _ h
theorem step_copyT {ops : Array Oper} {o : Oper} {a : Act} {w : World} {K : Act → World → Prop} {Q : Exit → Act → World → Prop} {E : Prop}
    (hg : o.guard = none) (d x : Operand) (hop : o.op = Op.call { callee := Callee.builtin Builtin.copy, args := #[d, x], argTypes := #[24, 24] })
    (v u : Value) (hd : a.eval d = v) (hx : a.eval x = u) {v' : Value} {w' : World} (hr : (Builtin.copy_ #[24, 24] o.type #[v, u]).run Tryz.prog w = .ok v' w') (hK : K (a.put o.dst v') w') :
    if Region.wanted o (yielded ops a.tmps) = true then Oper.wp Tryz.prog o a w K Q else E := by
  have hw : Region.wanted o (yielded ops a.tmps) = true := by simp [Region.wanted, hg]
  rw [if_pos hw]
  unfold Oper.wp
  simp [execOp, hop, resolve, invoke, builtin, hd, hx, hr, Result.andThen]
  exact hK
set_option maxRecDepth 100000 in
set_option maxHeartbeats 4000000 in
/-- Insert of one item where there is room. -/
theorem insert_shift (g cap i vb : Nat) (l : List Kv) (x : Kv) (w : World) (hR : RowV w g cap l) (hi : i < l.length) (hroom : l.length + 1 ≤ cap) (hn : l.length ≤ 1048576) (hvb : vb ≠ g) (hv : w.heap[vb]? = some (.cells #[.string x.x.1, .int .i64 x.x.2, .slice x.a (lenF x.l) x.c] 26 (0, 0))) :
    Calls Tryz.prog 114 #[.slice (some ⟨g, 0, none⟩) l.length cap, .int .i64 i, .slice (some ⟨vb, 0, none⟩) 1 1] w fun e w' => e = .returned (.slice (some ⟨g, 0, none⟩) (l.length + 1) cap) ∧ RowV w' g cap (l.take i ++ x :: l.drop i) ∧ Fr (fun q => q = g) w w' := by
  have hsm := hR.small
  unfold maxLen at hsm
  obtain ⟨cur, hg, hcs, hct⟩ := hR.row
  have mixed : Tryz.prog.follows .mixedOrders = true := by kernel_rfl
  have hsz : ∀ w : World, (Go.sizeOf 26).run Tryz.prog w = .ok 3 w := fun w => by kernel_rfl
  have hov : ∀ lb cb, (callFunc 115 #[.slice (some ⟨vb, 0, none⟩) 1 1, .slice (some ⟨g, (i + 1) * 3, none⟩) lb cb]).run Tryz.prog w = .ok (.value (.bool false)) w := fun lb cb => by
    rw [run_callFunc_extern Tryz.func115 (by kernel_rfl) (by kernel_rfl) (by kernel_rfl) (e := Extern.SlicesOverlaps.overlaps #[24, 24] #[4]) (by kernel_rfl),
      Lib.run_overlaps_apart w 24 4 26 Tryz.underlying24 3 hsz ⟨vb, 0, none⟩ ⟨g, (i + 1) * 3, none⟩ 1 1 lb cb hvb 26 26 3 (cap * 3) (by simp [World.shape?, hv]) (by simp [World.shape?, hg, hcs]) (by omega) (by simp [World.frozen?, hv]) (by simp [World.frozen?, hv])]
    rfl
  have hdl : (kvCells (l.drop i)).length = (l.length - i) * 3 := by rw [kvCells_len, List.length_drop]
  have hcp1 : ∀ ty dc sc, (Builtin.copy_ #[24, 24] ty #[.slice (some ⟨g, (i + 1) * 3, none⟩) (l.length - i) dc, .slice (some ⟨g, i * 3, none⟩) (l.length + 1 - i) sc]).run Tryz.prog w.drew = .ok (goInt (Nat.min (l.length + 1 - i) (l.length - i))) (w.drew.setCells g ((i + 1) * 3) (kvCells (l.drop i))) := fun ty dc sc =>
    run_copyT w.drew ty g ((i + 1) * 3) (l.length - i) dc ⟨g, i * 3, none⟩ (l.length + 1 - i) sc (kvCells (l.drop i)) (by rw [hdl]; simp only [Nat.min_def]; split <;> omega)
      (fun j v hj => by
        rw [Addr.add_lit]
        refine hR.cells ?_
        rw [← kvD, List.getElem?_drop] at hj
        exact hj)
      (fun j hj => (hR.any (by rw [hdl] at hj; omega)).1) (fun j hj => (hR.any (by rw [hdl] at hj; omega)).2) (kvCells_one _)
  obtain ⟨W1, hW1⟩ : ∃ W1, W1 = w.drew.setCells g ((i + 1) * 3) (kvCells (l.drop i)) := ⟨_, rfl⟩
  have hg1 : W1.heap[g]? = some (.cells (ovr cur.toList ((i + 1) * 3) (kvCells (l.drop i))).toArray 26 (0, 0)) := by
    rw [hW1]
    exact setCells_row _ _ w.drew cur hg (by rw [hdl]; omega)
  have hF1 : Fr (fun q => q = g) w W1 := by
    rw [hW1]
    exact Fr.trans (y := w.drew) ⟨(Below.refl _ w).drew, fun _ _ _ => rfl⟩ (setCells_tc _ _ _)
  have hv1 : W1.heap[vb]? = some (.cells #[.string x.x.1, .int .i64 x.x.2, .slice x.a (lenF x.l) x.c] 26 (0, 0)) := (hF1.same vb (Array.getElem?_eq_some_iff.1 hv).1 hvb).trans hv
  have hol : (ovr cur.toList ((i + 1) * 3) (kvCells (l.drop i))).length = cap * 3 := by
    have e : cur.toList.length = cur.size := rfl
    rw [ovr_len (by rw [hdl]; omega), e, hcs]
  have hxl : (Kv.cells x).length = 3 := rfl
  have hcp2 : ∀ ty dc, (Builtin.copy_ #[24, 24] ty #[.slice (some ⟨g, i * 3, none⟩) (l.length + 1 - i) dc, .slice (some ⟨vb, 0, none⟩) 1 1]).run Tryz.prog W1 = .ok (goInt (Nat.min 1 (l.length + 1 - i))) (W1.setCells g (i * 3) (Kv.cells x)) := fun ty dc =>
    run_copyT W1 ty g (i * 3) (l.length + 1 - i) dc ⟨vb, 0, none⟩ 1 1 (Kv.cells x) (by rw [hxl]; simp only [Nat.min_def]; split <;> omega)
      (fun j v hj => by
        rw [Addr.add_lit, Nat.zero_add]
        exact cell_box hv1 (by rw [← hj]; simp [Kv.cells]))
      (fun j hj => by rw [hxl] at hj; rw [cell_box hg1 (by rw [List.getElem?_toArray]; exact List.getElem?_eq_getElem (by rw [hol]; omega))]; rfl) (fun j hj => by simp [World.frozen?, hg1])
      (by intro v hv; simp [Kv.cells] at hv; rcases hv with rfl | rfl | rfl <;> rfl)
  rw [← hW1] at hcp1
  have HG1 := hid hg1; have HF1 := hid hF1; have HOL := hid hol; have HCT := hid hct; have HDL := hid hdl
  have hw1 : IntKind.i64.wrap ((i : Int) + 1) = (i : Int) + 1 := by rw [IntKind.wrap_i64]; omega
  have htn : ((i : Int) + 1).toNat = i + 1 := by omega
  have hb1 : (0 : Int) ≤ (i : Int) + 1 := by omega
  have hin : i ≤ l.length := by omega
  have hb2 : ¬ (cap = i + 1) := by omega
  have hb3 : (i : Int) ≤ (l.length : Int) + 1 := by omega
  have hb4 : ¬ (cap = i) := by omega
  have hz2 : ¬ ((i : Int) = (l.length : Int)) := by omega
  have hb5 : ¬ (cap : Int) < (l.length : Int) + 1 := by omega
  have hb6 : (i : Int) + 1 ≤ (l.length : Int) + 1 := by omega
  clear hg hcs hct hg1 hF1 hol hv1 hdl hxl hv hW1
  go_enter Tryz.func114, Tryz.ntmps114
  go_wp2_with (simp only [hov])
  go_region_law_o (refine step_copyT rfl _ _ rfl _ _ (by simp [Act.eval, Act.put]) (by simp [Act.eval, Act.put]) (hcp1 _ _ _) ?_)
  go_wp2_with (at_builtin; refine wpList_copyT _ rfl _ _ rfl _ _ rfl rfl (hcp2 _ _) ?_)
  go_ret
  have hdl := HDL.out
  have hll : (l.take i ++ x :: l.drop i).length = l.length + 1 := by simp; omega
  refine ⟨rfl, ⟨⟨(ovr (ovr cur.toList ((i + 1) * 3) (kvCells (l.drop i))) (i * 3) (Kv.cells x)).toArray, ?_, ?_, ?_⟩, by omega, hR.small⟩, HF1.out.trans (setCells_tc _ _ _)⟩
  · exact setCells_row (g := g) _ _ W1 _ HG1.out (by show i * 3 + 3 ≤ (ovr cur.toList ((i + 1) * 3) (kvCells (l.drop i))).length; rw [HOL.out]; omega)
  · show (ovr (ovr cur.toList ((i + 1) * 3) (kvCells (l.drop i))) (i * 3) (Kv.cells x)).length = cap * 3
    rw [ovr_len (by rw [HOL.out]; show i * 3 + 3 ≤ _; omega), HOL.out]
  · rw [hll]
    have e0 : cur.toList.take (i * 3) = kvCells (l.take i) := by
      rw [← kvT, ← HCT.out, List.take_take, Nat.min_eq_left (by omega)]
    have hx3 : i * 3 + (Kv.cells x).length = (i + 1) * 3 := by show i * 3 + 3 = _; omega
    have h1 : (ovr cur.toList ((i + 1) * 3) (kvCells (l.drop i))).take (i * 3) = kvCells (l.take i) := by
      unfold ovr
      have hl1 := HOL.out
      unfold ovr at hl1
      simp only [List.length_append, List.length_take, List.length_drop] at hl1
      rw [List.append_assoc, List.take_append_of_le_length (by rw [List.length_take]; omega), List.take_take, Nat.min_eq_left (by omega), e0]
    have h2 : ∃ z, (ovr cur.toList ((i + 1) * 3) (kvCells (l.drop i))).drop ((i + 1) * 3) = kvCells (l.drop i) ++ z := by
      unfold ovr
      have hl1 := HOL.out
      unfold ovr at hl1
      simp only [List.length_append, List.length_take, List.length_drop] at hl1
      refine ⟨cur.toList.drop ((i + 1) * 3 + (kvCells (l.drop i)).length), ?_⟩
      have hlt : (cur.toList.take ((i + 1) * 3)).length = (i + 1) * 3 := by rw [List.length_take]; omega
      rw [List.append_assoc, List.drop_append, hlt, Nat.sub_self, List.drop_zero, List.drop_eq_nil_of_le (by omega), List.nil_append]
    obtain ⟨z, h2⟩ := h2
    show (ovr (ovr cur.toList ((i + 1) * 3) (kvCells (l.drop i))) (i * 3) (Kv.cells x)).take ((l.length + 1) * 3) = _
    have e3 : ovr (ovr cur.toList ((i + 1) * 3) (kvCells (l.drop i))) (i * 3) (Kv.cells x) = kvCells (l.take i ++ x :: l.drop i) ++ z := by
      show (ovr cur.toList ((i + 1) * 3) (kvCells (l.drop i))).take (i * 3) ++ Kv.cells x ++ (ovr cur.toList ((i + 1) * 3) (kvCells (l.drop i))).drop (i * 3 + (Kv.cells x).length) = _
      rw [h1, hx3, h2, kvCells_append]
      show kvCells (l.take i) ++ Kv.cells x ++ (kvCells (l.drop i) ++ z) = kvCells (l.take i) ++ (Kv.cells x ++ kvCells (l.drop i)) ++ z
      simp
    rw [e3, List.take_append_of_le_length (by rw [kvCells_len, hll]; exact Nat.le_refl _), List.take_of_length_le (by rw [kvCells_len, hll]; exact Nat.le_refl _)]
theorem news_of (w : World) (vb : Nat) (x : Kv) (hv : w.heap[vb]? = some (.cells #[.string x.x.1, .int .i64 x.x.2, .slice x.a (lenF x.l) x.c] 26 (0, 0))) : ∀ j u, (Kv.cells x)[j]? = some u → w.cell? ((⟨vb, 0, none⟩ : Addr).add j) = some u := fun j u hj => by
  rw [Addr.add_lit, Nat.zero_add]
  exact cell_box hv (by rw [← hj]; simp [Kv.cells])
theorem kv_one1 (x : Kv) : ∀ u ∈ Kv.cells x, u.oneCell' = true := by
  intro v hv
  simp [Kv.cells] at hv
  rcases hv with rfl | rfl | rfl <;> rfl
set_option maxRecDepth 100000 in
set_option maxHeartbeats 4000000 in
/-- Insert of one item behind all others. -/
theorem insert_end (base vb : Nat) (p : Option Addr) (cap : Nat) (l : List Kv) (x : Kv) (w : World) (hown : w.ownsRow base 26 3 (.slice p l.length cap) l.length (kvCells l)) (hn : l.length ≤ 1048576) (hbase : base ≤ w.heap.size) (hv : w.heap[vb]? = some (.cells #[.string x.x.1, .int .i64 x.x.2, .slice x.a (lenF x.l) x.c] 26 (0, 0))) :
    Calls Tryz.prog 114 #[.slice p l.length cap, .int .i64 l.length, .slice (some ⟨vb, 0, none⟩) 1 1] w fun e w' => ∃ v', e = .returned v' ∧ w'.ownsRow base 26 3 v' (l.length + 1) (kvCells l ++ Kv.cells x) ∧ w.grownBy w' (Value.slice p l.length cap).ownBlock ∧ (v'.ownBlock = (Value.slice p l.length cap).ownBlock ∨ v'.ownBlock = some w.heap.size) := by
  obtain ⟨i0, hi, hz0, hz1, hz2⟩ := info_parts Tryz.info26
  have HN := hid (news_of w vb x hv)
  have HO := hid hown
  have hcap : l.length ≤ cap := by
    rcases hown.2 with ⟨h1, h2⟩ | ⟨g, c, cur, h1, _, _, h2, _⟩
    · omega
    · have := (Value.slice.inj h1).2.2
      omega
  obtain ⟨ob, hob⟩ : ∃ ob, (Value.slice p l.length cap).ownBlock = ob := ⟨_, rfl⟩
  rw [hob]
  have HOB := hid hob
  clear hown hv hob
  go_enter Tryz.func114, Tryz.ntmps114
  go_wp2_with (at_builtin; refine wpList_append_lies _ rfl _ _ 24 rfl base 26 i0 _ 3 48 Tryz.underlying24 hi hz0 hz1 hz2 rfl (by decide) (.slice p l.length cap) l.length (kvCells l) rfl HO.out ⟨vb, 0, none⟩ 1 1 (Kv.cells x) rfl rfl HN.out (kv_one1 x) (by decide) (by unfold maxLen; omega) (by omega) hbase _ rfl ?_; intro g' cap' w' h1 h2 h3 _; rw [HOB.out] at h2 h3; have H1 := hid h1; have H2 := hid h2; have H3 := hid h3; clear h1 h2 h3)
  all_goals
    go_ret
    refine ⟨_, rfl, H1.out, H2.out, ?_⟩
    rcases H3.out with h | h
    · exact .inl h.symm
    · exact .inr (by rw [h]; rfl)
set_option maxRecDepth 100000 in
set_option maxHeartbeats 8000000 in
/-- Insert of one item where there is no room. -/
theorem insert_grow (g cap i vb : Nat) (l : List Kv) (x : Kv) (w : World) (hR : RowV w g cap l) (hi : i < l.length) (hroom : cap < l.length + 1) (hn : l.length ≤ 1048576) (hv : w.heap[vb]? = some (.cells #[.string x.x.1, .int .i64 x.x.2, .slice x.a (lenF x.l) x.c] 26 (0, 0))) :
    Calls Tryz.prog 114 #[.slice (some ⟨g, 0, none⟩) l.length cap, .int .i64 i, .slice (some ⟨vb, 0, none⟩) 1 1] w fun e w' => ∃ c, e = .returned (.slice (some ⟨w.heap.size, 0, none⟩) (l.length + 1) c) ∧ RowV w' w.heap.size c (l.take i ++ x :: l.drop i) ∧ Below w.heap.size w w' := by
  obtain ⟨i0, hi0, hz0, hz1, hz2⟩ := info_parts Tryz.info26
  have hfit := hR.fits
  obtain ⟨cur, hg, hcs, hct⟩ := hR.row
  have mixed : Tryz.prog.follows .mixedOrders = true := by kernel_rfl
  have hgw : g < w.heap.size := (Array.getElem?_eq_some_iff.1 hg).1
  have hvw : vb < w.heap.size := (Array.getElem?_eq_some_iff.1 hv).1
  have hkk : (l.length : Int) + 1 - (i : Int) = ((l.length + 1 - i : Nat) : Int) := by omega
  have hik : i + (l.length + 1 - i) = l.length + 1 := by omega
  have htl : (kvCells (l.take i)).length = i * 3 := by rw [kvCells_len, List.length_take]; omega
  have hold : (Builtin.firstCells i0.size i (.slice (some ⟨g, 0, none⟩) i cap)).run Tryz.prog w.drew = .ok (kvCells (l.take i)).toArray w.drew := by
    rw [hz1]
    exact run_firstCells_some w.drew 3 i ⟨g, 0, none⟩ i cap (kvCells (l.take i)) htl (fun j v hj => by
      rw [Addr.add_lit, Nat.zero_add]
      rw [← kvT, List.getElem?_take] at hj
      split at hj
      · exact hR.cells hj
      · cases hj)
  have hrz : ∀ ty, (Builtin.append_ #[24, 3] ty #[.slice (some ⟨g, 0, none⟩) i cap, .int .i64 ((l.length : Int) + 1 - (i : Int))]).run Tryz.prog w =
      .ok (.slice (some ⟨w.heap.size, 0, none⟩) (l.length + 1) (grownCap w (l.length + 1) cap 26)) (w.drew.alloc (.cells ((kvCells (l.take i)).toArray ++ Builtin.zeroCells (Value.agg #[.string ⟨#[]⟩, .int .i64 0, .slice none 0 0]).cells (l.length + 1 - i) ++ Builtin.zeroCells (Value.agg #[.string ⟨#[]⟩, .int .i64 0, .slice none 0 0]).cells (grownCap w (l.length + 1) cap 26 - (l.length + 1))) 26)) := fun ty => by
    have h := Lib.run_append_grow_zeros w 24 3 ty 26 i0 _ .i64 .i64 Tryz.underlying24 Tryz.underlying3 hi0 hz0 (some ⟨g, 0, none⟩) i cap (kvCells (l.take i)) hold (l.length + 1 - i) (by omega) (by omega) (by omega) (by omega) (by rw [hz2]; omega) (by rw [hz2, hik]; exact growslice_fits hroom (by omega))
    rw [hik] at h
    rw [hkk]
    exact h
  obtain ⟨G, hG⟩ : ∃ G, G = grownCap w (l.length + 1) cap 26 := ⟨_, rfl⟩
  have hGn : l.length + 1 ≤ G := by rw [hG]; exact grownCap_ge w _ _ _
  have hG63 : G ≤ maxLen := by rw [hG]; exact grownCap_le_maxLen w (l.length + 1) cap 26 (by unfold maxLen; omega)
  obtain ⟨ROW, hROW⟩ : ∃ ROW : Array Value, ROW = (kvCells (l.take i)).toArray ++ Builtin.zeroCells (Value.agg #[.string ⟨#[]⟩, .int .i64 0, .slice none 0 0]).cells (l.length + 1 - i) ++ Builtin.zeroCells (Value.agg #[.string ⟨#[]⟩, .int .i64 0, .slice none 0 0]).cells (G - (l.length + 1)) := ⟨_, rfl⟩
  rw [← hG, ← hROW] at hrz
  have hRl : ROW.size = G * 3 := by
    rw [hROW]
    simp [Builtin.zeroCells, Value.cells, htl]
    omega
  have hRt : ∃ z, ROW.toList = kvCells (l.take i) ++ z := by
    rw [hROW]
    exact ⟨_, by simp; rfl⟩
  have hdl : (kvCells (l.drop i)).length = (l.length - i) * 3 := by rw [kvCells_len, List.length_drop]
  have hxl : (Kv.cells x).length = 3 := rfl
  have hRl' : ROW.toList.length = G * 3 := hRl
  have hol : (ovr ROW.toList (i * 3) (Kv.cells x)).length = G * 3 := by rw [ovr_len (by rw [hxl]; omega), hRl']
  have hcpA : ∀ (W : World), W.heap[w.heap.size]? = some (.cells ROW 26 (0, 0)) → W.heap[vb]? = some (.cells #[.string x.x.1, .int .i64 x.x.2, .slice x.a (lenF x.l) x.c] 26 (0, 0)) → ∀ ty dc, (Builtin.copy_ #[24, 24] ty #[.slice (some ⟨w.heap.size, i * 3, none⟩) (l.length + 1 - i) dc, .slice (some ⟨vb, 0, none⟩) 1 1]).run Tryz.prog W = .ok (goInt (Nat.min 1 (l.length + 1 - i))) (W.setCells w.heap.size (i * 3) (Kv.cells x)) := fun W hW hWv ty dc =>
    run_copyT W ty w.heap.size (i * 3) (l.length + 1 - i) dc ⟨vb, 0, none⟩ 1 1 (Kv.cells x) (by rw [hxl]; simp only [Nat.min_def]; split <;> omega) (news_of W vb x hWv)
      (fun j hj => by rw [hxl] at hj; rw [cell_box hW (Array.getElem?_eq_getElem (by omega : i * 3 + j < ROW.size))]; rfl) (fun j hj => by simp [World.frozen?, hW]) (kv_one1 x)
  have hcpB : ∀ (W : World), W.heap[w.heap.size]? = some (.cells (ovr ROW.toList (i * 3) (Kv.cells x)).toArray 26 (0, 0)) → W.heap[g]? = w.heap[g]? → ∀ ty dc sc, (Builtin.copy_ #[24, 24] ty #[.slice (some ⟨w.heap.size, (i + 1) * 3, none⟩) (l.length - i) dc, .slice (some ⟨g, i * 3, none⟩) (l.length - i) sc]).run Tryz.prog W = .ok (goInt (Nat.min (l.length - i) (l.length - i))) (W.setCells w.heap.size ((i + 1) * 3) (kvCells (l.drop i))) := fun W hW hWg ty dc sc =>
    run_copyT W ty w.heap.size ((i + 1) * 3) (l.length - i) dc ⟨g, i * 3, none⟩ (l.length - i) sc (kvCells (l.drop i)) (by rw [hdl]; simp only [Nat.min_def]; split <;> omega)
      (fun j v hj => by
        rw [Addr.add_lit]
        rw [← kvD, List.getElem?_drop] at hj
        rw [World.cell?_of_block (a := ⟨g, i * 3 + j, none⟩) hWg]
        exact hR.cells hj)
      (fun j hj => by rw [hdl] at hj; rw [cell_box hW (by rw [List.getElem?_toArray]; exact List.getElem?_eq_getElem (by rw [hol]; omega))]; rfl) (fun j hj => by simp [World.frozen?, hW]) (kvCells_one _)
  have hA1 : (w.alloc (.cells ROW 26)).heap[w.heap.size]? = some (.cells ROW 26 (0, 0)) := World.alloc_heap_new w _
  have hA2 : (w.alloc (.cells ROW 26)).heap[vb]? = some (.cells #[.string x.x.1, .int .i64 x.x.2, .slice x.a (lenF x.l) x.c] 26 (0, 0)) := ((alloc_below0 w _).block vb hvw).trans hv
  have hsm : cap ≤ maxLen := hR.small
  have hGm := hid hG63
  unfold maxLen at hG63 hsm
  have hw1 : IntKind.i64.wrap ((i : Int) + 1) = (i : Int) + 1 := by rw [IntKind.wrap_i64]; omega
  have htn : ((i : Int) + 1).toNat = i + 1 := by omega
  have hb1 : (0 : Int) ≤ (i : Int) + 1 := by omega
  have hb2 : ¬ (G = i + 1) := by omega
  have hb3 : (i : Int) ≤ (l.length : Int) + 1 := by omega
  have hb4 : ¬ (G = i) := by omega
  have hb7 : ¬ (cap = i) := by omega
  have hz2' : ¬ ((i : Int) = (l.length : Int)) := by omega
  have hb5 : (cap : Int) < (l.length : Int) + 1 := by omega
  have hb6 : (i : Int) + 1 ≤ (l.length : Int) + 1 := by omega
  have hb8 : (i : Int) ≤ (l.length : Int) := by omega
  have HRT := hid hRt; have HRL := hid hRl; have HOL := hid hol; have HDL := hid hdl
  have HCA := hcpA ((w.alloc (.cells ROW 26)).drew) hA1 hA2
  have hC1 : ((w.alloc (.cells ROW 26)).drew.setCells w.heap.size (i * 3) (Kv.cells x)).heap[w.heap.size]? = some (.cells (ovr ROW.toList (i * 3) (Kv.cells x)).toArray 26 (0, 0)) := setCells_row _ _ _ ROW hA1 (by rw [hxl]; omega)
  have hC2 : ((w.alloc (.cells ROW 26)).drew.setCells w.heap.size (i * 3) (Kv.cells x)).heap[g]? = w.heap[g]? := ((setCells_tc _ _ (w.alloc (.cells ROW 26)).drew).same g (by show g < (w.alloc (.cells ROW 26)).heap.size; rw [World.size_alloc]; omega) (by omega)).trans ((alloc_below0 w _).block g hgw)
  have hBe : Below w.heap.size w ((w.alloc (.cells ROW 26)).drew.setCells w.heap.size (i * 3) (Kv.cells x)) := ((alloc_below0 w _).drew).trans ((setCells_tc _ _ _).below (fun k hk => by omega) (by show w.heap.size ≤ (w.alloc (.cells ROW 26)).heap.size; rw [World.size_alloc]; omega))
  obtain ⟨W2, hW2⟩ : ∃ W2, (w.alloc (.cells ROW 26)).drew.setCells w.heap.size (i * 3) (Kv.cells x) = W2 := ⟨_, rfl⟩
  rw [hW2] at HCA hC1 hC2 hBe
  have HCB := hcpB W2.drew hC1 hC2
  have HC1 := hid hC1; have HBE := hid hBe
  clear hkk hik hold hROW hG hRl hRl' hRt hg hcs hct hv hol htl hdl hxl hA1 hA2 hC1 hC2 hcpA hcpB hBe
  go_enter Tryz.func114, Tryz.ntmps114
  go_wp2_with (first
    | (at_builtin; refine Lib.wpList_append_run _ rfl _ _ _ _ rfl _ _ rfl rfl _ _ (hrz _) ?_)
    | (at_builtin; refine wpList_copyT _ rfl _ _ rfl _ _ rfl rfl (HCA _ _) ?_))
  go_region_law_o (refine step_copyT rfl _ _ rfl _ _ (by simp [Act.eval, Act.put]) (by simp [Act.eval, Act.put]) (HCB _ _ _) ?_)
  go_wp2
  go_ret
  have hdl := HDL.out
  have hol := HOL.out
  have hll : (l.take i ++ x :: l.drop i).length = l.length + 1 := by simp; omega
  refine ⟨_, rfl, ⟨⟨(ovr (ovr ROW.toList (i * 3) (Kv.cells x)) ((i + 1) * 3) (kvCells (l.drop i))).toArray, ?_, ?_, ?_⟩, by omega, hGm.out⟩, (HBE.out.drew).trans ((setCells_tc _ _ W2.drew).below (fun k hk => by omega) HBE.out.size)⟩
  · exact setCells_row (g := w.heap.size) _ _ W2.drew _ HC1.out (by show (i + 1) * 3 + _ ≤ (ovr ROW.toList (i * 3) (Kv.cells x)).length; rw [hol, hdl]; omega)
  · show (ovr (ovr ROW.toList (i * 3) (Kv.cells x)) ((i + 1) * 3) (kvCells (l.drop i))).length = G * 3
    rw [ovr_len (by rw [hol, hdl]; omega), hol]
  · obtain ⟨z, hz⟩ := HRT.out
    have htl : (kvCells (l.take i)).length = i * 3 := by rw [kvCells_len, List.length_take]; congr 1; omega
    have e1 : ∃ z', ovr ROW.toList (i * 3) (Kv.cells x) = kvCells (l.take i) ++ Kv.cells x ++ z' := ⟨_, by
      unfold ovr
      rw [hz, List.take_append_of_le_length (by rw [htl]; exact Nat.le_refl _), List.take_of_length_le (by rw [htl]; exact Nat.le_refl _)]⟩
    obtain ⟨z', e1⟩ := e1
    have hl2 : (kvCells (l.take i) ++ Kv.cells x).length = (i + 1) * 3 := by rw [List.length_append, htl]; show i * 3 + 3 = _; omega
    have e2 : ∃ z'', ovr (ovr ROW.toList (i * 3) (Kv.cells x)) ((i + 1) * 3) (kvCells (l.drop i)) = kvCells (l.take i ++ x :: l.drop i) ++ z'' := ⟨_, by
      rw [e1]
      unfold ovr
      rw [List.take_append_of_le_length (by rw [hl2]; exact Nat.le_refl _), List.take_of_length_le (by rw [hl2]; exact Nat.le_refl _), kvCells_append]
      show _ = kvCells (l.take i) ++ (Kv.cells x ++ kvCells (l.drop i)) ++ _
      rw [← List.append_assoc (kvCells (l.take i))]⟩
    obtain ⟨z'', e2⟩ := e2
    rw [hll]
    show (ovr (ovr ROW.toList (i * 3) (Kv.cells x)) ((i + 1) * 3) (kvCells (l.drop i))).take ((l.length + 1) * 3) = _
    rw [e2, List.take_append_of_le_length (by rw [kvCells_len, hll]; exact Nat.le_refl _), List.take_of_length_le (by rw [kvCells_len, hll]; exact Nat.le_refl _)]
theorem RowV.owns {W : World} {g cap : Nat} {l : List Kv} (h : RowV W g cap l) {base : Nat} (hb : base ≤ g) : W.ownsRow base 26 3 (.slice (some ⟨g, 0, none⟩) l.length cap) l.length (kvCells l) := by
  obtain ⟨cur, h1, h2, h3⟩ := h.row
  exact ⟨kvCells_len l, .inr ⟨g, cap, cur, rfl, hb, h1, h.fits, h.small, h2, h3⟩⟩
theorem rowV_of {W : World} {base : Nat} {p : Option Addr} {c : Nat} {l : List Kv} (h : W.ownsRow base 26 3 (.slice p l.length c) l.length (kvCells l)) (hl : 0 < l.length) : ∃ g, p = some ⟨g, 0, none⟩ ∧ base ≤ g ∧ RowV W g c l := by
  rcases h.2 with ⟨_, h2⟩ | ⟨g, cap, cur, h1, h2, h3, h4, h5, h6, h7⟩
  · omega
  · have e := Value.slice.inj h1
    obtain ⟨e1, _, e3⟩ := e
    subst e1
    subst e3
    exact ⟨g, rfl, h2, ⟨cur, h3, h6, h7⟩, h4, h5⟩
theorem tc_grown {w w' : World} {r : Option Nat} (h : w.grownBy w' r) : Fr (fun q => r = some q) w w' := ⟨⟨h.os, h.tape, h.output, h.size, fun k hk => absurd hk (Nat.not_lt_zero k)⟩, fun k hk hA => h.block k hk (fun e => hA e.symm)⟩
theorem own_eq (p : Option Addr) (n c : Nat) : (Value.slice p n c).ownBlock = p.map Addr.block := by cases p <;> rfl

theorem insert_any (base vb i : Nat) (p : Option Addr) (cap : Nat) (l : List Kv) (x : Kv) (w : World) (hown : w.ownsRow base 26 3 (.slice p l.length cap) l.length (kvCells l)) (hi : i ≤ l.length) (hn : l.length ≤ 1048576) (hbase : base ≤ w.heap.size) (hv : w.heap[vb]? = some (.cells #[.string x.x.1, .int .i64 x.x.2, .slice x.a (lenF x.l) x.c] 26 (0, 0))) (hvb : p.map Addr.block ≠ some vb) :
    Calls Tryz.prog 114 #[.slice p l.length cap, .int .i64 i, .slice (some ⟨vb, 0, none⟩) 1 1] w fun e w' => ∃ p' c', e = .returned (.slice p' (l.length + 1) c') ∧ w'.ownsRow base 26 3 (.slice p' (l.length + 1) c') (l.length + 1) (kvCells (l.take i ++ x :: l.drop i)) ∧ Fr (fun q => p.map Addr.block = some q) w w' ∧ ∀ q, p'.map Addr.block = some q → p.map Addr.block = some q ∨ w.heap.size ≤ q := by
  by_cases hl : i = l.length
  · subst hl
    refine Calls.mono (insert_end base vb p cap l x w hown hn hbase hv) ?_
    rintro e w' ⟨v', rfl, h1, h2, h5⟩
    have e0 : kvCells (l.take l.length ++ x :: l.drop l.length) = kvCells l ++ Kv.cells x := by
      rw [List.take_of_length_le (Nat.le_refl _), List.drop_eq_nil_of_le (Nat.le_refl _), kvCells_append]
      show _ ++ (Kv.cells x ++ []) = _
      rw [List.append_nil]
    rw [e0]
    obtain ⟨g, c, _, hf, _⟩ := h1.2.resolve_left (fun h => by omega)
    rw [hf] at h1 h5
    simp only [own_eq] at h2 h5
    refine ⟨_, _, by rw [hf], h1, tc_grown h2, fun q hq => ?_⟩
    have h6 : some g = some q := hq
    rcases h5 with h5 | h5
    · have h7 : some g = p.map Addr.block := h5
      exact .inl (h7.symm.trans h6)
    · have h7 : some g = some w.heap.size := h5
      exact .inr (by have := Option.some.inj (h6.symm.trans h7); omega)
  · have hlt : i < l.length := by omega
    obtain ⟨g, rfl, hg, hR⟩ := rowV_of hown (by omega)
    have hll : (l.take i ++ x :: l.drop i).length = l.length + 1 := by simp; omega
    by_cases hroom : l.length + 1 ≤ cap
    · refine Calls.mono (insert_shift g cap i vb l x w hR hlt hroom hn (fun e => hvb (by rw [e]; rfl)) hv) ?_
      rintro e w' ⟨rfl, h1, h2⟩
      have h3 := h1.owns (base := base) hg
      rw [hll] at h3
      exact ⟨_, _, rfl, h3, ⟨h2.low, fun k hk hA => h2.same k hk (fun e => hA (by rw [e]; rfl))⟩, fun q hq => .inl hq⟩
    · refine Calls.mono (insert_grow g cap i vb l x w hR hlt (by omega) hn hv) ?_
      rintro e w' ⟨c, rfl, h1, h2⟩
      have h3 := h1.owns (base := base) hbase
      rw [hll] at h3
      exact ⟨_, _, rfl, h3, Fr.of_below h2, fun q hq => .inr (by have h6 : some w.heap.size = some q := hq; have := Option.some.inj h6; omega)⟩
end Go.Proofs.YtokbgbbkopmngaaGreat
