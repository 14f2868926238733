/- Texts laid together: SCopy, SOnly, SRow, SPut, CanP, CanQ, CanS, Find, Unit, Right, ChkPlain, SgOf. -/
import Derived.Test.YtgidgmgpgfonnabM1
/- A copy of terms into a fresh row. -/
namespace Go.Proofs.Ytgidgmgpgfonnab
open Go.RowKit Go.Deep Go.Shelf

/-- The cells of terms that lie side by side. -/
theorem kids_cells {w : World} : ∀ {F : Fo} {b o : Nat}, KidsAt w F b o → ∃ cs : List Value, cs.length = lenF F * 3 ∧ (∀ j v, cs[j]? = some v → w.cell? ⟨b, o + j, none⟩ = some v) ∧ ∀ v ∈ cs, v.oneCell' = true
  | .nil, _, _, _ => ⟨[], rfl, fun _ _ h => by simp at h, fun _ h => by simp at h⟩
  | .node _ _ x l r, b, o, h => by
    obtain ⟨⟨a, c, h0, h1, h2, _⟩, hr⟩ := h
    obtain ⟨cs, hl, hc, ho⟩ := kids_cells hr
    refine ⟨.string x.1 :: .int .i64 x.2 :: .slice a (lenF l) c :: cs, by simp [lenF, hl]; omega, fun j v hj => ?_, fun v hv => ?_⟩
    · match j with
      | 0 => simp at hj; subst hj; exact h0
      | 1 => simp at hj; subst hj; exact h1
      | 2 => simp at hj; subst hj; exact h2
      | j + 3 =>
        simp at hj
        have := hc j v hj
        rw [show o + (j + 3) = o + 3 + j by omega]
        exact this
    · simp only [List.mem_cons] at hv
      rcases hv with rfl | rfl | rfl | hv
      · rfl
      · rfl
      · rfl
      · exact ho v hv
theorem run_copyT (w : World) (ty : TypeId) (b o dLen dCap : Nat) (a : Addr) (sLen sCap : Nat) (cs : List Value) (hn : cs.length = (Nat.min sLen dLen) * 3) (hsrc : ∀ j v, cs[j]? = some v → w.cell? (a.add j) = some v)
    (hc : ∀ j, j < cs.length → (w.cell? ⟨b, o + j, none⟩).isSome = true) (hf : ∀ j, j < cs.length → w.frozen? ⟨b, o + j, none⟩ = false) (h1 : ∀ v ∈ cs, v.oneCell' = true) :
    (Builtin.copy_ #[25, 25] ty #[.slice (some ⟨b, o, none⟩) dLen dCap, .slice (some a) sLen sCap]).run Try.prog w = .ok (goInt (Nat.min sLen dLen)) (w.setCells b o cs) := by
  obtain ⟨i0, hi0, hz0, hz1, hz2⟩ := info_parts Try.info27
  have hl := run_loadCells_list (P := Try.prog) w a cs hsrc
  have hst := run_storeCells_cells (P := Try.prog) b o cs 0 w hc hf h1
  simp only [Nat.add_zero] at hst
  simp [Builtin.copy_, run_underlying Try.underlying25, Builtin.lenOf, Builtin.firstCells, sizeOf, typeInfo, hi0, hz1, ← hn, hl, hst]
/-- Terms in which others stand for variables. -/
def putF (lk : ByteArray → Option Tn) : Fo → Fo
  | .nil => .nil
  | .node B O x l r => match lkN lk x.1 with
    | some t => .node B O t.1 t.2 (putF lk r)
    | none => .node B O x (putF lk l) (putF lk r)
def putN (lk : ByteArray → Option Tn) (x : ByteArray × Int) (l : Fo) : Tn := match lkN lk x.1 with | some t => t | none => (x, putF lk l)
theorem putF_len (lk : ByteArray → Option Tn) : ∀ F : Fo, lenF (putF lk F) = lenF F
  | .nil => rfl
  | .node _ _ x l r => by
    unfold putF
    cases lkN lk x.1 with
    | none => simp only [lenF]; rw [putF_len lk r]
    | some t => simp only [lenF]; rw [putF_len lk r]
theorem putF_kids (lk : ByteArray → Option Tn) : ∀ F : Fo, kidsL (putF lk F) = (kidsL F).map fun y => putN lk y.1 y.2
  | .nil => rfl
  | .node _ _ x l r => by
    unfold putF putN
    cases h : lkN lk x.1 with
    | none => simp only [kidsL, List.map_cons, h]; rw [putF_kids lk r]; rfl
    | some t => simp only [kidsL, List.map_cons, h]; rw [putF_kids lk r]; rfl
end Go.Proofs.Ytgidgmgpgfonnab
/- Terms that are read in some blocks alone; put of a table. -/
namespace Go.Proofs.Ytgidgmgpgfonnab
open Go.RowKit Go.Deep Go.Shelf

/-- The maps of a world lie in another one. -/
def MapsIn (u w : World) : Prop := ∀ (b : Nat) es cl, u.heap[b]? = some (Obj.map es cl) → w.heap[b]? = some (Obj.map es cl)
theorem MapsIn.refl (w : World) : MapsIn w w := fun _ _ _ h => h
theorem MapsIn.below {u w w' : World} (h : MapsIn u w) (hb : Below w.heap.size w w') : MapsIn u w' := fun b es cl hh => by
  have h1 := h b es cl hh
  exact (hb.block b (Array.getElem?_eq_some_iff.1 h1).1).trans h1
theorem MapAt.inn {u w : World} {b n : Nat} {D : DataW Value} (h : MapAt u b n D) (hu : MapsIn u w) : MapAt w b n D := by
  obtain ⟨es, cl, h1, h2, h3, h4⟩ := h
  exact ⟨es, cl, hu b es cl h1, h2, h3, h4⟩
theorem tab_gen {u : World} {mv : Value} {lk : ByteArray → Option Tn} (h : TabV u mv lk) (s : ByteArray) (hs : s.size ≤ maxLen) :
    (lk s = none ∧ ∀ W, MapsIn u W → (Instr.lookup 48 mv (.string s) true).run Try.prog W = .ok (.tuple #[.agg #[.string ⟨#[]⟩, .int .i64 0, .slice none 0 0], .bool false]) W) ∨
    ∃ t a c, lk s = some t ∧ TmAt u t.1 a c t.2 ∧ ∀ W, MapsIn u W → (Instr.lookup 48 mv (.string s) true).run Try.prog W = .ok (.tuple #[.agg #[.string t.1.1, .int .i64 t.1.2, .slice a (lenF t.2) c], .bool true]) W := by
  rcases h with ⟨rfl, hn⟩ | ⟨b, n, rfl, ⟨D, hD, hl⟩⟩
  · exact .inl ⟨hn s, fun W _ => nil_run W s hs⟩
  · have h1 := hl s
    cases hk : lk s with
    | none =>
      rw [hk] at h1
      refine .inl ⟨rfl, fun W hb => ?_⟩
      have := look_run (hD.inn hb) s hs
      rw [show lookD D s = Option.none from h1] at this
      exact this
    | some t =>
      rw [hk] at h1
      obtain ⟨a, c, h2, h3⟩ := h1
      refine .inr ⟨t, a, c, rfl, h3, fun W hb => ?_⟩
      have := look_run (hD.inn hb) s hs
      rw [h2] at this
      exact this
set_option maxRecDepth 100000 in
set_option maxHeartbeats 1000000 in
theorem look_gen (mv : Value) (lk : ByteArray → Option Tn) (x : ByteArray × Int) (a : Option Addr) (n c : Nat) (u w : World) (hT : TabV u mv lk) (hu : MapsIn u w) (hs : x.1.size ≤ maxLen) :
    Calls Try.prog 39 #[mv, .agg #[.string x.1, .int .i64 x.2, .slice a n c]] w fun e w' => Below w.heap.size w w' ∧
      ((lkN lk x.1 = none ∧ e = .returned (.tuple #[.agg #[.string ⟨#[]⟩, .int .i64 0, .slice none 0 0], .bool false])) ∨ ∃ t a' c', lkN lk x.1 = some t ∧ TmAt u t.1 a' c' t.2 ∧ e = .returned (.tuple #[.agg #[.string t.1.1, .int .i64 t.1.2, .slice a' (lenF t.2) c'], .bool true])) := by
  have b1 := alloc_below0 w (.cells #[.string x.1, .int .i64 x.2, .slice a n c] 27)
  have b2 := alloc_below0 (w.alloc (.cells #[.string x.1, .int .i64 x.2, .slice a n c] 27)) (.cells #[.string ⟨#[]⟩, .int .i64 0, .slice none 0 0] 27)
  have n2 := World.alloc_heap_new (w.alloc (.cells #[.string x.1, .int .i64 x.2, .slice a n c] 27)) (.cells #[.string ⟨#[]⟩, .int .i64 0, .slice none 0 0] 27)
  have hB := b1.trans (b2.mono b1.size)
  rw [World.size_alloc] at n2
  have HB := hid hB; have HN2 := hid n2
  unfold lkN
  cases hnm : noName x.1 with
  | true =>
    have hnm' : x.1.toList.isEmpty = true := hnm
    clear b1 b2 hB n2
    go_enter Try.func39, Try.ntmps39
    go_wp2_with fail
    exact bodyPost_ret (results_ct rfl rfl (load27 (x := (⟨#[]⟩, 0)) HN2.out)) rfl ⟨HB.out, rfl⟩
  | false =>
    have hnm' : x.1.toList.isEmpty = false := hnm
    rcases tab_gen hT x.1 hs with ⟨hk, hr⟩ | ⟨t, a', c', hk, ht, hr⟩
    · have hrun := hr _ (hu.below hB)
      clear b1 b2 hB n2 hr
      go_enter Try.func39, Try.ntmps39
      go_wp2_with fail
      exact bodyPost_ret (results_ct rfl rfl (load27 (box2 w _ _ (⟨#[]⟩, 0) none 0 0))) rfl ⟨below3 _ _ _ _, rfl⟩
    · have hrun := hr _ (hu.below hB)
      clear b1 b2 hB n2 hr
      go_enter Try.func39, Try.ntmps39
      go_wp2_with fail
      exact bodyPost_ret (results_ct rfl rfl (load27 (box2 w _ _ t.1 a' (lenF t.2) c'))) rfl ⟨below3 _ _ _ _, a', c', ht, rfl⟩
/-- A world of which only some blocks can be read. -/
def onlyW (P : Nat → Prop) [DecidablePred P] (w : World) : World := { w with heap := w.heap.mapIdx fun i o => if P i then o else .cells #[] 0 }
theorem only_in {P : Nat → Prop} [DecidablePred P] {w : World} {b : Nat} (h : P b) : (onlyW P w).heap[b]? = w.heap[b]? := by
  unfold onlyW
  simp only [Array.getElem?_mapIdx]
  cases w.heap[b]? with
  | none => rfl
  | some o => simp [h]
theorem only_cell {P : Nat → Prop} [DecidablePred P] {w : World} {p : Addr} {v : Value} (h : (onlyW P w).cell? p = some v) : P p.block ∧ w.cell? p = some v := by
  by_cases hp : P p.block
  · refine ⟨hp, ?_⟩
    have e := only_in (w := w) hp
    simp only [World.cell?, e] at h ⊢
    exact h
  · have e : (onlyW P w).heap[p.block]? = (w.heap[p.block]?).map fun _ => Obj.cells #[] 0 := by
      unfold onlyW
      simp only [Array.getElem?_mapIdx]
      cases w.heap[p.block]? with
      | none => rfl
      | some o => simp [hp]
    simp only [World.cell?, e] at h
    cases hb : w.heap[p.block]? with
    | none => rw [hb] at h; simp at h
    | some o => rw [hb] at h; simp at h
theorem cell_only {P : Nat → Prop} [DecidablePred P] {w : World} {p : Addr} {v : Value} (hp : P p.block) (h : w.cell? p = some v) : (onlyW P w).cell? p = some v := by
  have e := only_in (w := w) hp
  simp only [World.cell?, e] at h ⊢
  exact h
theorem tm_only {P Q : Nat → Prop} [DecidablePred P] [DecidablePred Q] {w w' : World} {x : ByteArray × Int} {a : Option Addr} {c : Nat} {l : Fo} (h : TmAt (onlyW P w) x a c l) (hq : ∀ b, b < w.heap.size → P b → Q b ∧ w'.heap[b]? = w.heap[b]?) : TmAt (onlyW Q w') x a c l :=
  h.kept fun p v hv => by
    obtain ⟨h1, h2⟩ := only_cell hv
    obtain ⟨h3, h4⟩ := hq p.block (World.block_lt_of_cell? w p h2) h1
    refine cell_only h3 ?_
    simp only [World.cell?, h4] at h2 ⊢
    exact h2
theorem tm_whole {P : Nat → Prop} [DecidablePred P] {w : World} {x : ByteArray × Int} {a : Option Addr} {c : Nat} {l : Fo} (h : TmAt (onlyW P w) x a c l) : TmAt w x a c l := h.kept fun _ _ hv => (only_cell hv).2
theorem tm_in {w : World} {x : ByteArray × Int} {a : Option Addr} {c : Nat} {l : Fo} (h : TmAt w x a c l) : TmAt (onlyW (fun b => b < w.heap.size) w) x a c l := h.kept fun p _ hv => cell_only (World.block_lt_of_cell? w p hv) hv
theorem maps_only (P : Nat → Prop) [DecidablePred P] (w : World) : MapsIn (onlyW P w) w := fun b es cl h => by
  by_cases hp : P b
  · rw [only_in hp] at h; exact h
  · have e : (onlyW P w).heap[b]? = (w.heap[b]?).map fun _ => Obj.cells #[] 0 := by
      unfold onlyW
      simp only [Array.getElem?_mapIdx]
      cases w.heap[b]? with
      | none => rfl
      | some o => simp [hp]
    rw [e] at h
    cases hb : w.heap[b]? with
    | none => rw [hb] at h; cases h
    | some o => rw [hb] at h; simp at h
end Go.Proofs.Ytgidgmgpgfonnab
/- A row of terms, copied first, then filled one by one with others. -/
namespace Go.Proofs.Ytgidgmgpgfonnab
open Go.RowKit Go.Deep Go.Shelf

/-- A row, written over from a place on. -/
def ovr (cur : List Value) (o : Nat) (vs : List Value) : List Value := cur.take o ++ vs ++ cur.drop (o + vs.length)
theorem setCells_row {g : Nat} {t : TypeId} {fr : Nat × Nat} : ∀ (vs : List Value) (o : Nat) (W : World) (cur : Array Value), W.heap[g]? = some (.cells cur t fr) → o + vs.length ≤ cur.size → (W.setCells g o vs).heap[g]? = some (.cells (ovr cur.toList o vs).toArray t fr)
  | [], o, W, cur, h, _ => by
    show W.heap[g]? = _
    rw [h]
    unfold ovr
    simp
  | v :: r, o, W, cur, h, hl => by
    have h1 := block_set (k := o) h v
    have h2 := setCells_row r (o + 1) (W.setCell ⟨g, o, none⟩ v) _ h1 (by simp at hl ⊢; omega)
    rw [World.setCells]
    rw [h2]
    congr 3
    have hl' : o < cur.toList.length := by simp at hl ⊢; omega
    unfold ovr
    rw [Array.toList_setIfInBounds]
    have e1 : (cur.toList.set o v).take (o + 1) = cur.toList.take o ++ [v] := by
      rw [List.take_add_one, List.getElem?_set_self hl', List.take_set_of_le (Nat.le_refl _)]
      rfl
    have e2 : (cur.toList.set o v).drop (o + 1 + r.length) = cur.toList.drop (o + (v :: r).length) := by
      rw [List.drop_set_of_lt (by omega)]
      congr 1
      simp only [List.length_cons]
      omega
    rw [e1, e2]
    simp
theorem setCells_far {g q : Nat} (hq : q ≠ g) : ∀ (vs : List Value) (o : Nat) (W : World), (W.setCells g o vs).heap[q]? = W.heap[q]?
  | [], _, _ => rfl
  | v :: r, o, W => by
    rw [World.setCells, setCells_far hq r]
    exact Below.heap_setCell W _ _ q hq
theorem setCells_low {n0 : Nat} {w : World} {g : Nat} (hg : n0 ≤ g) : ∀ (vs : List Value) (o : Nat) (W : World), Below n0 w W → Below n0 w (W.setCells g o vs)
  | [], _, _, h => h
  | v :: r, o, W, h => by
    rw [World.setCells]
    exact setCells_low hg r (o + 1) _ (h.setCell (p := ⟨g, o, none⟩) hg v)
structure PRow (u : World) (M g n bb oo : Nat) (ks : List Kv) (W : World) : Prop where
  row : ∃ cur, W.heap[g]? = some (Obj.cells cur 27 (0, 0)) ∧ cur.size = n * 3 ∧ (∀ (i : Nat) (v : Value), (kvCells ks)[i]? = some v → cur[i]? = some v) ∧ ∀ (i : Nat) (v : Value), ks.length * 3 ≤ i → i < n * 3 → u.cell? ⟨bb, oo + i, none⟩ = some v → cur[i]? = some v
  tms : ∀ q ∈ ks, TmAt (onlyW (fun b => b < M ∨ g < b) W) q.x q.a q.c q.l
theorem PRow.cell {u : World} {M g n bb oo : Nat} {ks : List Kv} {W : World} (h : PRow u M g n bb oo ks W) {i : Nat} (hi : i < n * 3) : ∃ v, W.cell? ⟨g, i, none⟩ = some v := by
  obtain ⟨cur, h1, h2, _⟩ := h.row
  exact ⟨cur[i]'(by omega), by rw [cell_of_row W g i cur 27 (0, 0) h1]; simp [show i < cur.size by omega]⟩
theorem PRow.frozen {u : World} {M g n bb oo : Nat} {ks : List Kv} {W : World} (h : PRow u M g n bb oo ks W) (i : Nat) : W.frozen? ⟨g, i, none⟩ = false := by
  obtain ⟨cur, h1, _⟩ := h.row
  simp [World.frozen?, h1]
theorem PRow.rest {u : World} {M g n bb oo : Nat} {ks : List Kv} {W : World} (h : PRow u M g n bb oo ks W) {i : Nat} {v : Value} (h1 : ks.length * 3 ≤ i) (h2 : i < n * 3) (hv : u.cell? ⟨bb, oo + i, none⟩ = some v) : W.cell? ⟨g, i, none⟩ = some v := by
  obtain ⟨cur, e1, _, _, e4⟩ := h.row
  rw [cell_of_row W g i cur 27 (0, 0) e1]
  exact e4 i v h1 h2 hv
theorem PRow.lt {u : World} {M g n bb oo : Nat} {ks : List Kv} {W : World} (h : PRow u M g n bb oo ks W) : g < W.heap.size := by
  obtain ⟨cur, h1, _⟩ := h.row
  exact (Array.getElem?_eq_some_iff.1 h1).1
theorem PRow.below {u : World} {M g n bb oo : Nat} {ks : List Kv} {W W' : World} (h : PRow u M g n bb oo ks W) (hb : Below W.heap.size W W') : PRow u M g n bb oo ks W' := by
  obtain ⟨cur, h1, h2⟩ := h.row
  exact ⟨⟨cur, (hb.block _ h.lt).trans h1, h2⟩, fun q hq => tm_only (h.tms q hq) fun b hb' hP => ⟨hP, hb.block b hb'⟩⟩
theorem PRow.store {u : World} {M g n bb oo : Nat} {ks : List Kv} {kv : Kv} {W : World} (h : PRow u M g n bb oo ks W) (hk : TmAt (onlyW (fun b => b < M ∨ g < b) W) kv.x kv.a kv.c kv.l) (hlt : ks.length < n) (hM : M ≤ g) :
    PRow u M g n bb oo (ks ++ [kv]) (((W.setCell ⟨g, ks.length * 3, none⟩ (.string kv.x.1)).setCell ⟨g, ks.length * 3 + 1, none⟩ (.int .i64 kv.x.2)).setCell ⟨g, ks.length * 3 + 2, none⟩ (.slice kv.a (lenF kv.l) kv.c)) := by
  obtain ⟨cur, h1, h2, h3, h4⟩ := h.row
  have far : ∀ q, q ≠ g → (((W.setCell ⟨g, ks.length * 3, none⟩ (.string kv.x.1)).setCell ⟨g, ks.length * 3 + 1, none⟩ (.int .i64 kv.x.2)).setCell ⟨g, ks.length * 3 + 2, none⟩ (.slice kv.a (lenF kv.l) kv.c)).heap[q]? = W.heap[q]? := fun q hq => by
    rw [Below.heap_setCell _ _ _ q hq, Below.heap_setCell _ _ _ q hq, Below.heap_setCell _ _ _ q hq]
  refine ⟨⟨_, block_set (block_set (block_set h1 _) _) _, by simp [h2], ?_, ?_⟩, fun q hq => ?_⟩
  · intro i v hu
    rw [kvCells_snoc] at hu
    have hl := kvCells_len ks
    have hkl : kv.cells.length = 3 := rfl
    have hi : i < ks.length * 3 + 3 := by
      rcases Nat.lt_or_ge i (ks.length * 3 + 3) with h' | h'
      · exact h'
      · rw [List.getElem?_eq_none (by rw [List.length_append]; omega)] at hu; cases hu
    simp only [Array.getElem?_setIfInBounds, Array.size_setIfInBounds]
    by_cases hc : i < ks.length * 3
    · rw [List.getElem?_append_left (by omega)] at hu
      rw [if_neg (by omega), if_neg (by omega), if_neg (by omega)]
      exact h3 i v hu
    · rw [List.getElem?_append_right (by omega), hl] at hu
      have hcase : i = ks.length * 3 ∨ i = ks.length * 3 + 1 ∨ i = ks.length * 3 + 2 := by omega
      rcases hcase with e | e | e
      · subst e
        rw [if_neg (by omega), if_neg (by omega), if_pos rfl, if_pos (by omega)]
        simpa [Kv.cells] using hu
      · subst e
        rw [if_neg (by omega), if_pos rfl, if_pos (by omega)]
        rw [show ks.length * 3 + 1 - ks.length * 3 = 1 by omega] at hu
        simpa [Kv.cells] using hu
      · subst e
        rw [if_pos rfl, if_pos (by omega)]
        rw [show ks.length * 3 + 2 - ks.length * 3 = 2 by omega] at hu
        simpa [Kv.cells] using hu
  · intro i v hi hn hv
    simp only [List.length_append, List.length_cons, List.length_nil] at hi
    simp only [Array.getElem?_setIfInBounds, Array.size_setIfInBounds]
    rw [if_neg (by omega), if_neg (by omega), if_neg (by omega)]
    exact h4 i v (by omega) hn hv
  · have hq' : TmAt (onlyW (fun b => b < M ∨ g < b) W) q.x q.a q.c q.l := by
      rcases List.mem_append.1 hq with hq | hq
      · exact h.tms q hq
      · rw [List.mem_singleton.1 hq]; exact hk
    exact tm_only hq' fun b _ hP => ⟨hP, far b (by omega)⟩
theorem kidsAt_of {w : World} {b : Nat} : ∀ (F : Fo) (ks : List Kv) (o : Nat), ks.map (fun k => (k.x, k.l)) = kidsL F → (∀ j u, (kvCells ks)[j]? = some u → w.cell? ⟨b, o + j, none⟩ = some u) → (∀ k ∈ ks, TmAt w k.x k.a k.c k.l) → KidsAt w F b o
  | .nil, _, _, _, _, _ => trivial
  | .node _ _ x l r, [], o, h, _, _ => by simp [kidsL] at h
  | .node _ _ x l r, k :: ks, o, h, hc, ho => by
    simp only [List.map_cons, kidsL, List.cons.injEq, Prod.mk.injEq] at h
    obtain ⟨⟨rfl, rfl⟩, h⟩ := h
    have e : kvCells (k :: ks) = .string k.x.1 :: .int .i64 k.x.2 :: .slice k.a (lenF k.l) k.c :: kvCells ks := rfl
    rw [e] at hc
    have hk := ho k (by simp)
    refine ⟨⟨k.a, k.c, hc 0 _ rfl, hc 1 _ rfl, hc 2 _ rfl, hk.sizes, hk.args⟩, kidsAt_of r ks (o + 3) h (fun j u hu => ?_) (fun k' hk' => ho k' (by simp [hk']))⟩
    have := hc (j + 3) u (by simpa using hu)
    rw [show o + 3 + j = o + (j + 3) by omega]
    exact this
/-- The row is full. -/
theorem PRow.done {u : World} {M g n bb oo : Nat} {ks : List Kv} {W : World} (h : PRow u M g n bb oo ks W) {F : Fo} (hk : ks.map (fun k => (k.x, k.l)) = kidsL F) {Q : Nat → Prop} [DecidablePred Q] (hQ : ∀ b, (b < M ∨ g ≤ b) → Q b) : KidsAt (onlyW Q W) F g 0 := by
  obtain ⟨cur, h1, h2, h3, _⟩ := h.row
  refine kidsAt_of F ks 0 hk (fun j v hj => ?_) (fun q hq => tm_only (h.tms q hq) fun b _ hP => ⟨hQ b (by omega), rfl⟩)
  refine cell_only (hQ g (.inr (Nat.le_refl _))) ?_
  rw [Nat.zero_add, cell_of_row W g j cur 27 (0, 0) h1]
  exact h3 j v hj
end Go.Proofs.Ytgidgmgpgfonnab
/- put of a table. -/
namespace Go.Proofs.Ytgidgmgpgfonnab
open Go.RowKit Go.Deep Go.Shelf

theorem tab_only {P : Nat → Prop} [DecidablePred P] {w w' : World} {mv : Value} {lk : ByteArray → Option Tn} (h : TabV (onlyW P w) mv lk) (hq : ∀ b, b < w.heap.size → P b → w'.heap[b]? = w.heap[b]?) : TabV (onlyW P w') mv lk := by
  refine h.imp id fun ⟨b, n, h1, ⟨D, hD, hl⟩⟩ => ⟨b, n, h1, ⟨D, hD.inn fun b' es cl hh => ?_, fun s => ?_⟩⟩
  · have h2 := maps_only P w b' es cl hh
    have hP : P b' := Classical.byContradiction fun hp => by
      have e : (onlyW P w).heap[b']? = (w.heap[b']?).map fun _ => Obj.cells #[] 0 := by
        unfold onlyW
        simp only [Array.getElem?_mapIdx]
        cases w.heap[b']? with
        | none => rfl
        | some o => simp [hp]
      rw [e, h2] at hh
      simp at hh
    rw [only_in hP]
    exact (hq b' (Array.getElem?_eq_some_iff.1 h2).1 hP).trans h2
  · have h2 := hl s
    cases hs : lk s with
    | none => rw [hs] at h2; exact h2
    | some t =>
      rw [hs] at h2
      obtain ⟨a, c, h3, h4⟩ := h2
      exact ⟨a, c, h3, tm_only h4 fun b hb hP => ⟨hP, hq b hb hP⟩⟩
theorem far3 {W : World} {g q i : Nat} (h : q ≠ g) (a b c : Value) : (((W.setCell ⟨g, i, none⟩ a).setCell ⟨g, i + 1, none⟩ b).setCell ⟨g, i + 2, none⟩ c).heap[q]? = W.heap[q]? := by
  rw [Below.heap_setCell _ _ _ q h, Below.heap_setCell _ _ _ q h, Below.heap_setCell _ _ _ q h]
theorem run_copy0 (w : World) (ty : TypeId) (g c : Nat) (a : Option Addr) : (Builtin.copy_ #[25, 25] ty #[.slice (some ⟨g, 0, none⟩) 0 0, .slice a 0 c]).run Try.prog w = .ok (goInt 0) w := by
  obtain ⟨i0, hi0, _, _, _⟩ := info_parts Try.info27
  have hst : (storeCells ⟨g, 0, none⟩ []).run Try.prog w = .ok () w := run_storeCells_cells (P := Try.prog) g 0 [] 0 w (by simp) (by simp) (by simp)
  cases a with
  | none => simp [Builtin.copy_, run_underlying Try.underlying25, Builtin.lenOf, Builtin.firstCells, sizeOf, typeInfo, hi0, hst]
  | some p =>
    have hl : (loadCells p 0).run Try.prog w = .ok #[] w := run_loadCells_list (P := Try.prog) w p [] (by simp)
    simp [Builtin.copy_, run_underlying Try.underlying25, Builtin.lenOf, Builtin.firstCells, sizeOf, typeInfo, hi0, hl, hst]
def PutOk (lk : ByteArray → Option Tn) (k : Nat) : Prop := ∀ (x : ByteArray × Int) (l : Fo) (a : Option Addr) (c : Nat) (mv : Value) (M : Nat) (w : World), nodesF l ≤ k → M ≤ w.heap.size → TmAt (onlyW (fun b => b < M) w) x a c l → TabV (onlyW (fun b => b < M) w) mv lk →
  Calls Try.prog 27 #[mv, .agg #[.string x.1, .int .i64 x.2, .slice a (lenF l) c]] w fun e w' => ∃ a' c', e = .returned (.agg #[.string (putN lk x l).1.1, .int .i64 (putN lk x l).1.2, .slice a' (lenF (putN lk x l).2) c']) ∧ TmAt (onlyW (fun b => b < M ∨ w.heap.size ≤ b) w') (putN lk x l).1 a' c' (putN lk x l).2 ∧ Below w.heap.size w w'
set_option maxRecDepth 100000 in
set_option maxHeartbeats 2000000 in
theorem put_all (lk : ByteArray → Option Tn) : ∀ k, PutOk lk k := by
  intro k
  induction k using Nat.strongRecOn with
  | _ k ih =>
    intro x l a c mv M w hk hMw hT hM
    have HT := hid hT; have HM := hid hM
    have IH : Hid (∀ j, j < k → PutOk lk j) := ih
    obtain ⟨W0, hW0⟩ : ∃ W0, (w.alloc (.cells #[.string x.1, .int .i64 x.2, .slice a (lenF l) c] 27)).alloc (.cells #[.string ⟨#[]⟩, .int .i64 0, .slice none 0 0] 27) = W0 := ⟨_, rfl⟩
    have hb0 : Below w.heap.size w W0 := by rw [← hW0]; exact ((Below.refl _ w).alloc (Nat.le_refl _) _).alloc (by simp) _
    have b1 : XBox W0 w.heap.size x (.slice a (lenF l) c) := by rw [← hW0]; exact (Below.heap_alloc _ _ _ (by simp)).trans (World.alloc_heap_new w _)
    have b2 : XBox W0 (w.heap.size + 1) (⟨#[]⟩, 0) (.slice none 0 0) := by
      have := World.alloc_heap_new (w.alloc (.cells #[.string x.1, .int .i64 x.2, .slice a (lenF l) c] 27)) (.cells #[.string ⟨#[]⟩, .int .i64 0, .slice none 0 0] 27)
      rw [World.size_alloc] at this
      rw [← hW0]; exact this
    have hsz : W0.heap.size = w.heap.size + 2 := by rw [← hW0]; simp
    have HLK := hid (look_gen mv lk x a (lenF l) c (onlyW (fun b => b < M) w) W0 hM ((maps_only _ w).below hb0) hT.sizes.name)
    clear hT hM ih
    have z0 := b1.c0; have z1 := b1.c1; have z2 := b1.c2
    go_enter Try.func27, Try.ntmps27
    go_wp2_with fail
    clear hW0 z0 z1 z2
    refine HLK.out.mono ?_
    rintro e w1 ⟨hb1, hres⟩
    have HW1 := hid (hb0.trans (hb1.mono hb0.size))
    rcases hres with ⟨hk0, rfl⟩ | ⟨t, a', c', hk1, hT1, rfl⟩
    · have hp : putN lk x l = (x, putF lk l) := by unfold putN; rw [hk0]
      have HP := hid hp
      obtain ⟨i0, hi, hz0, hz1, hz2⟩ := info_parts Try.info27
      have bx := alloc_below0 w1 (.cells #[.string ⟨#[]⟩, .int .i64 0, .slice none 0 0] 27)
      have hVs : w1.heap.size < (w1.alloc (.cells #[.string ⟨#[]⟩, .int .i64 0, .slice none 0 0] 27)).heap.size := by simp
      have B1 := (b1.below hb1).below bx
      have B2 := (b2.below hb1).below bx
      have HL := hid (HW1.out.trans (bx.mono HW1.out.size))
      have HB1 := hid B1; have HB2 := hid B2
      have hfew := HT.out.sizes.few
      have hn1 := HT.out.sizes.len; have hn2 := HT.out.sizes.cap
      have hmax : maxLen = 9223372036854775807 := rfl
      have c2 := B1.c2
      clear HLK b1 b2 bx hb1 hb0 B1 B2 hp
      go_upto_region 4 with fail
      generalize w1.alloc (.cells #[.string ⟨#[]⟩, .int .i64 0, .slice none 0 0] 27) = V at HL HB1 HB2 c2 hVs ⊢
      by_cases h0 : lenF l = 0
      · have hl := len_nil h0
        subst hl
        have hcp := run_copy0 (ty := 3) (c := c) (a := a)
        go_upto_region 5 with (at_make; refine wpList_make_full _ rfl _ _ 25 rfl V.heap.size 27 i0 (.agg #[.string ⟨#[]⟩, .int .i64 0, .slice none 0 0]) 3 Try.underlying25 hi hz0 hz1 .i64 .i64 _ _ 0 rfl rfl rfl rfl (by rw [hz2]; omega) (by omega) (Nat.le_refl _) ?_; intro w0 hown0 hgrow0)
        have hbm : Below V.heap.size V w0 := (Below.refl _ _).grown hgrow0 (Nat.le_refl _) (fun k e => by cases e)
        have hc0 := hcp w0 V.heap.size
        have FX := hid (HB1.out.below hbm); have FY := hid (HB2.out.below hbm)
        have FL := hid (HL.out.trans (hbm.mono HL.out.size))
        have c2' := FX.out.c2
        have f2 := FX.out.f (k := 2)
        have X1 := FX.out.set (.slice (some ⟨V.heap.size, 0, none⟩) 0 0)
        have x0 := X1.c0; have x1 := X1.c1; have x2 := X1.c2
        have R1 := FY.out.other (p := ⟨w.heap.size, 2, none⟩) (by show w.heap.size + 1 ≠ w.heap.size; omega) (.slice (some ⟨V.heap.size, 0, none⟩) 0 0)
        have r0 := R1.c0; have r1 := R1.c1; have r2 := R1.c2
        have g0 := R1.f (k := 0); have g1 := R1.f (k := 1); have g2 := R1.f (k := 2)
        have HR1 := hid R1
        clear X1 R1 hcp hown0 hgrow0 hbm c2
        go_wp2_with fail
        go_loopw [28] (fun iv wr => iv = .int .i64 0 ∧ wr = w0) (fun _ _ => 0)
        case atStart => exact ⟨rfl, rfl⟩
        case round =>
          obtain ⟨rfl, rfl⟩ := hrel
          go_wp2_with fail
          refine bodyPost_ret (results_cell_row rfl _ _ (w.heap.size + 1) 27 #[.string x.1, .int .i64 x.2, .slice (some ⟨V.heap.size, 0, none⟩) 0 0] (0, 0) _ rfl (HR1.out.all (x := x) _) Try.underlying27 rfl Try.size27) rfl ?_
          rw [HP.out]
          exact ⟨some ⟨V.heap.size, 0, none⟩, 0, rfl, ⟨⟨HT.out.sizes.name, Nat.le_refl _, by omega, by simp [putF, lenF]⟩, .inl rfl⟩, sets_below (FL.out.setCell (p := ⟨w.heap.size, 2, none⟩) (Nat.le_refl _) _) (by omega) _ _ _⟩
      · obtain ⟨bb, oo, rfl, hkk⟩ := HT.out.args.get (by omega)
        have HKK := hid hkk
        go_upto_region 5 with (at_make; refine wpList_make_full _ rfl _ _ 25 rfl V.heap.size 27 i0 (.agg #[.string ⟨#[]⟩, .int .i64 0, .slice none 0 0]) 3 Try.underlying25 hi hz0 hz1 .i64 .i64 _ _ (lenF l) rfl rfl rfl rfl (by rw [hz2]; omega) (by omega) (Nat.le_refl _) ?_; intro w0 hown0 hgrow0)
        have hbm : Below V.heap.size V w0 := (Below.refl _ _).grown hgrow0 (Nat.le_refl _) (fun k e => by cases e)
        obtain ⟨cur, hcur, hcs⟩ : ∃ cur, w0.heap[V.heap.size]? = some (.cells cur 27 (0, 0)) ∧ cur.size = lenF l * 3 := by
          rcases hown0.2 with ⟨hv, _⟩ | ⟨g', cap', cur, hv, _, hh, _, _, hcs, _⟩
          · cases hv
          · cases hv
            exact ⟨cur, hh, hcs⟩
        have hL0 := HL.out.trans (hbm.mono HL.out.size)
        obtain ⟨cs, hcl, hcc, hco⟩ := kids_cells hkk
        have hcc0 : ∀ j v, cs[j]? = some v → w0.cell? ⟨bb, oo + j, none⟩ = some v := fun j v hj => bd_cell hL0 _ _ (only_cell (hcc j v hj)).2
        have hcp := run_copyT w0 3 V.heap.size 0 (lenF l) (lenF l) ⟨bb, oo, none⟩ (lenF l) c cs (by rw [hcl]; simp) (fun j v hj => by rw [Addr.add_lit]; exact hcc0 j v hj) (fun j hj => by rw [Nat.zero_add, cell_of_row w0 V.heap.size j cur 27 (0, 0) hcur]; simp; omega) (fun j hj => by simp [World.frozen?, hcur]) hco
        have c2' := (HB1.out.below hbm).c2
        have hrow := setCells_row cs 0 w0 cur hcur (by omega)
        have hov : ovr cur.toList 0 cs = cs := by
          unfold ovr
          rw [List.take_zero, List.nil_append, List.drop_eq_nil_of_le (by rw [Array.length_toList]; omega), List.append_nil]
        rw [hov] at hrow
        have P0 : PRow w M V.heap.size (lenF l) bb oo [] (w0.setCells V.heap.size 0 cs) := by
          refine ⟨⟨_, hrow, by simp [hcl], fun i v h => by simp [kvCells] at h, fun i v _ hi hv => ?_⟩, fun q hq => by simp at hq⟩
          have h1 : cs[i]? = some cs[i] := List.getElem?_eq_getElem (by omega)
          have h2 := (only_cell (hcc i _ h1)).2
          rw [h2] at hv
          simp only [List.getElem?_toArray]
          rw [h1]
          exact hv
        have hfar : ∀ q, q ≠ V.heap.size → (w0.setCells V.heap.size 0 cs).heap[q]? = w0.heap[q]? := fun q hq => setCells_far hq cs 0 w0
        have hwV : w.heap.size + 1 < V.heap.size := by
          have := (Array.getElem?_eq_some_iff.1 HB2.out).1
          exact this
        have X0 : XBox (w0.setCells V.heap.size 0 cs) w.heap.size x (.slice (some ⟨bb, oo, none⟩) (lenF l) c) := (hfar _ (by omega)).trans (HB1.out.below hbm)
        have Y0 : XBox (w0.setCells V.heap.size 0 cs) (w.heap.size + 1) (⟨#[]⟩, 0) (.slice none 0 0) := (hfar _ (by omega)).trans (HB2.out.below hbm)
        have L0 := setCells_low (g := V.heap.size) (by omega) cs 0 w0 hL0
        have HP0 := hid P0; have HX0 := hid X0; have HY0 := hid Y0; have HL0 := hid L0
        clear P0 X0 Y0 L0 hrow hov hfar hcc hcc0 hco hcl hcur hcs hbm hown0 hgrow0 hL0 hkk c2
        go_upto_region 6 with fail
        generalize w0.setCells V.heap.size 0 cs = W2 at HP0 HX0 HY0 HL0 ⊢
        clear hcp c2'
        generalize V.heap.size = g at HP0 hwV ⊢
        go_wp2_with fail
        go_loopw [28] (fun iv wr => ∃ (j : Nat) (ks : List Kv), j ≤ lenF l ∧ iv = .int .i64 j ∧ ks.length = j ∧ PRow w M g (lenF l) bb oo ks wr ∧ ks.map (fun q => (q.x, q.l)) = ((kidsL l).take j).map (fun y => putN lk y.1 y.2) ∧ XBox wr w.heap.size x (.slice (some ⟨bb, oo, none⟩) (lenF l) c) ∧ XBox wr (w.heap.size + 1) (⟨#[]⟩, 0) (.slice none 0 0) ∧ Below w.heap.size w wr) (fun iv _ => lenF l - (intOf iv).toNat)
        case atStart => exact ⟨0, [], Nat.zero_le _, rfl, rfl, HP0.out, by simp, HX0.out, HY0.out, HL0.out⟩
        case round =>
          obtain ⟨j, ks, hj, rfl, hkl, hP, hks, hX, hY, hlow⟩ := hrel
          have FP := hid hP; have FX := hid hX; have FY := hid hY; have FL := hid hlow; have FK := hid hks
          clear hP hX hY hlow hks
          by_cases hlt : j < lenF l
          · obtain ⟨y, a1, c1, l1, kd⟩ := HKK.out.kid (k := j) hlt
            have p0 := FP.out.rest (i := j * 3) (by omega) (by omega) (only_cell kd.name).2
            have p1 := FP.out.rest (i := j * 3 + 1) (by omega) (by omega) (only_cell kd.sym).2
            have p2 := FP.out.rest (i := j * 3 + 2) (by omega) (by omega) (only_cell kd.list).2
            have bx := alloc_below0 wr (.cells #[.string y.1, .int .i64 y.2, .slice a1 (lenF l1) c1] 27)
            have hsm : ∀ b, b < w.heap.size → (wr.alloc (.cells #[.string y.1, .int .i64 y.2, .slice a1 (lenF l1) c1] 27)).heap[b]? = w.heap[b]? := fun b hb => (bx.block b (Nat.lt_of_lt_of_le hb FL.out.size)).trans (FL.out.block b hb)
            have HC := hid (IH.out (nodesF l1) (by have := kd.less; omega) y l1 a1 c1 mv M (wr.alloc (.cells #[.string y.1, .int .i64 y.2, .slice a1 (lenF l1) c1] 27)) (Nat.le_refl _) (by have := FL.out.size; simp; omega) (tm_only kd.at_ fun b hb hP => ⟨hP, hsm b hb⟩) (tab_only HM.out fun b hb _ => hsm b hb))
            have KD := hid kd
            have BX := hid bx
            have hgl := FP.out.lt
            clear kd bx hsm
            go_wp2_with fail
            refine HC.out.mono ?_
            rintro e w2 ⟨a', c', rfl, hT2, hb2⟩
            have HW2 := hid (BX.out.trans (hb2.mono BX.out.size))
            have P2 := FP.out.below HW2.out
            have HP2 := hid P2
            obtain ⟨u0, v0⟩ := P2.cell (i := j * 3) (by omega)
            obtain ⟨u1, v1⟩ := P2.cell (i := j * 3 + 1) (by omega)
            obtain ⟨u2, v2⟩ := P2.cell (i := j * 3 + 2) (by omega)
            have f0 := P2.frozen (j * 3); have f1 := P2.frozen (j * 3 + 1); have f2 := P2.frozen (j * 3 + 2)
            have HT2 := hid (tm_only (Q := fun b => b < M ∨ g < b) (w' := w2) hT2 fun b _ hP => ⟨by simp only [World.size_alloc] at hP; omega, rfl⟩)
            clear P2 hb2 hT2 p0 p1 p2 HC
            go_wp2_with fail
            obtain ⟨B1', O1', sp⟩ := KD.out.split
            have hst := HP2.out.store (kv := ⟨(putN lk y l1).1, (putN lk y l1).2, a', c'⟩) HT2.out (by omega) (by omega)
            rw [hkl] at hst
            have hl2 := FL.out.trans (HW2.out.mono FL.out.size)
            refine ⟨⟨j + 1, ks ++ [⟨(putN lk y l1).1, (putN lk y l1).2, a', c'⟩], by omega, rfl, by simp [hkl], hst, ?_, (far3 (by omega) _ _ _).trans (FX.out.below HW2.out), (far3 (by omega) _ _ _).trans (FY.out.below HW2.out), ?_⟩, by simp [intOf]; omega⟩
            · rw [kids_take sp, List.map_append, List.map_append, FK.out]
              rfl
            · exact ((hl2.setCell (p := ⟨g, j * 3, none⟩) (by show w.heap.size ≤ g; omega) _).setCell (p := ⟨g, j * 3 + 1, none⟩) (by show w.heap.size ≤ g; omega) _).setCell (p := ⟨g, j * 3 + 2, none⟩) (by show w.heap.size ≤ g; omega) _
          · have e1 : j = lenF l := by omega
            have c2 := FX.out.c2
            have f2 := FX.out.f (k := 2)
            have X1 := FX.out.set (.slice (some ⟨g, 0, none⟩) (lenF l) (lenF l))
            have x0 := X1.c0; have x1 := X1.c1; have x2 := X1.c2
            have R1 := FY.out.other (p := ⟨w.heap.size, 2, none⟩) (by show w.heap.size + 1 ≠ w.heap.size; omega) (.slice (some ⟨g, 0, none⟩) (lenF l) (lenF l))
            have r0 := R1.c0; have r1 := R1.c1; have r2 := R1.c2
            have g0 := R1.f (k := 0); have g1 := R1.f (k := 1); have g2 := R1.f (k := 2)
            have HR1 := hid R1
            have hfull : ks.map (fun q => (q.x, q.l)) = kidsL (putF lk l) := by
              rw [FK.out, putF_kids, List.take_of_length_le (by rw [kids_len]; omega)]
            have HF := hid (FP.out.done (F := putF lk l) hfull (Q := fun b => b < M ∨ g ≤ b) (fun b h => h))
            clear X1 R1 hfull
            go_wp2_with fail
            refine bodyPost_ret (results_cell_row rfl _ _ (w.heap.size + 1) 27 #[.string x.1, .int .i64 x.2, .slice (some ⟨g, 0, none⟩) (lenF l) (lenF l)] (0, 0) _ rfl (HR1.out.all (x := x) _) Try.underlying27 rfl Try.size27) rfl ?_
            rw [HP.out]
            refine ⟨some ⟨g, 0, none⟩, lenF l, by rw [putF_len], ⟨⟨HT.out.sizes.name, by rw [putF_len]; exact Nat.le_refl _, by omega, by rw [putF_len]; exact hfew⟩, .inr ⟨g, 0, rfl, ?_⟩⟩, sets_below (FL.out.setCell (p := ⟨w.heap.size, 2, none⟩) (Nat.le_refl _) _) (by omega) _ _ _⟩
            refine HF.out.kept fun p v hv => ?_
            obtain ⟨q1, q2⟩ := only_cell hv
            have hsame := (sets_far (W := wr.setCell ⟨w.heap.size, 2, none⟩ (.slice (some ⟨g, 0, none⟩) (lenF l) (lenF l))) (B := w.heap.size + 1) (q := p.block) (by omega) (.string x.1) (.int .i64 x.2) (.slice (some ⟨g, 0, none⟩) (lenF l) (lenF l))).trans (Below.heap_setCell wr _ _ p.block (by show p.block ≠ w.heap.size; omega))
            refine cell_only (by omega) ?_
            simp only [World.cell?, hsame] at q2 ⊢
            exact q2
    · have hp : putN lk x l = t := by unfold putN; rw [hk1]
      have HP := hid hp
      have bx := alloc_below0 w1 (.cells #[.string t.1.1, .int .i64 t.1.2, .slice a' (lenF t.2) c'] 27)
      have R1 := (b2.below hb1).below bx
      have HL := hid (HW1.out.trans (bx.mono HW1.out.size))
      have HR1 := hid R1
      have r0 := R1.c0; have r1 := R1.c1; have r2 := R1.c2
      have g0 := R1.f (k := 0); have g1 := R1.f (k := 1); have g2 := R1.f (k := 2)
      have HT1 := hid hT1
      clear HLK b1 b2 R1 bx hb1 hb0 hsz hT1 hp
      go_wp2_with fail
      refine bodyPost_ret (results_cell_row rfl _ _ (w.heap.size + 1) 27 #[.string t.1.1, .int .i64 t.1.2, .slice a' (lenF t.2) c'] (0, 0) _ rfl (HR1.out.all (x := t.1) _) Try.underlying27 rfl Try.size27) rfl ?_
      rw [HP.out]
      refine ⟨a', c', rfl, tm_only HT1.out fun b hb hbM => ⟨.inl hbM, ?_⟩, sets_below HL.out (by omega) _ _ _⟩
      exact (sets_far (by omega) _ _ _).trans (HL.out.block b hb)
end Go.Proofs.Ytgidgmgpgfonnab
/- Canonical forms, without any program: what Canon, Parts and Join say of a term, and that one is canonical just if it is its own canonical form. -/
namespace Go.Proofs.Ytgidgmgpgfonnab
open Go.RowKit Go.Deep

/-! ### lists of terms and forests -/
def mkF : List Tn → Fo
  | [] => .nil
  | t :: r => .node 0 0 t.1 t.2 (mkF r)
theorem kids_mk : ∀ l : List Tn, kidsL (mkF l) = l
  | [] => rfl
  | t :: r => by simp only [mkF, kidsL]; rw [kids_mk r]
theorem len_mk (l : List Tn) : lenF (mkF l) = l.length := by rw [← kids_len, kids_mk]
def noB : ByteArray := ⟨#[]⟩
theorem bytes_eq {a b : ByteArray} (h : a.data.toList = b.data.toList) : a = b := by
  obtain ⟨⟨l⟩⟩ := a
  obtain ⟨⟨m⟩⟩ := b
  rw [show l = m from h]
theorem noName_eq {s : ByteArray} (h : noName s = true) : s = noB := by
  unfold noName at h
  rw [List.isEmpty_iff, ByteArray.toList_eq] at h
  exact bytes_eq h
theorem noName_noB : noName noB = true := by decide +kernel

/-! ### the order -/
def cmpN (x y : Tn) : Int := cmp1 x.1 y.1 (lenF x.2) (lenF y.2) (cmpF x.2 y.2)
theorem cmpN_anti (x y : Tn) : cmpN y x = - cmpN x y := by unfold cmpN; rw [cmpF_anti]; exact cmp1_anti _ _ _ _ _
theorem cmpN_cons (x y z : Tn) : Cons (cmpN x y) (cmpN y z) (cmpN x z) := cmp1_cons _ _ _ _ _ _ _ _ _ (fun a b => cmpF_cons _ _ _ a b)
def leN (x y : Tn) : Prop := cmpN x y ≤ 0
theorem leN_trans {x y z : Tn} (h : leN x y) (k : leN y z) : leN x z := by
  obtain ⟨c1, c2, c3, _⟩ := cmpN_cons x y z
  unfold leN at *
  by_cases e : cmpN x y = 0
  · rw [c1 e]; exact k
  · by_cases e2 : cmpN y z = 0
    · rw [c2 e2]; exact h
    · exact Int.le_of_lt (c3 (by omega) (by omega))
theorem leN_total (x y : Tn) : leN x y ∨ leN y x := by
  unfold leN
  rw [cmpN_anti x y]
  omega
/-- Behind all that are not greater. -/
def insN (x : Tn) : List Tn → List Tn
  | [] => [x]
  | y :: r => if cmpN y x > 0 then x :: y :: r else y :: insN x r
def sortN : List Tn → List Tn
  | l => l.foldl (fun out x => insN x out) []
abbrev Srt (l : List Tn) : Prop := l.Pairwise leN
theorem insN_perm (x : Tn) : ∀ l : List Tn, List.Perm (insN x l) (x :: l)
  | [] => List.Perm.refl _
  | y :: r => by
    unfold insN
    split
    · exact List.Perm.refl _
    · exact ((insN_perm x r).cons y).trans (List.Perm.swap x y r)
theorem insN_srt (x : Tn) : ∀ {l : List Tn}, Srt l → Srt (insN x l)
  | [], _ => by simp [insN]
  | y :: r, h => by
    unfold insN
    obtain ⟨h1, h2⟩ := List.pairwise_cons.1 h
    split
    · rename_i hgt
      have hxy : leN x y := by unfold leN; rw [cmpN_anti y x]; omega
      refine List.pairwise_cons.2 ⟨fun z hz => ?_, h⟩
      rcases List.mem_cons.1 hz with rfl | hz
      · exact hxy
      · exact leN_trans hxy (h1 z hz)
    · rename_i hgt
      refine List.pairwise_cons.2 ⟨fun z hz => ?_, insN_srt x h2⟩
      rcases List.mem_cons.1 ((insN_perm x r).mem_iff.1 hz) with rfl | hz
      · unfold leN; omega
      · exact h1 z hz
theorem sort_go_perm : ∀ (l out : List Tn), List.Perm (l.foldl (fun out x => insN x out) out) (out ++ l)
  | [], out => by simp
  | x :: l, out => by
    rw [List.foldl_cons]
    refine (sort_go_perm l (insN x out)).trans ?_
    refine ((insN_perm x out).append_right l).trans ?_
    exact List.perm_middle.symm
theorem sortN_perm (l : List Tn) : List.Perm (sortN l) l := by
  have := sort_go_perm l []
  rwa [List.nil_append] at this
theorem sort_go_srt : ∀ (l out : List Tn), Srt out → Srt (l.foldl (fun out x => insN x out) out)
  | [], _, h => h
  | x :: l, out, h => by rw [List.foldl_cons]; exact sort_go_srt l _ (insN_srt x h)
theorem sortN_srt (l : List Tn) : Srt (sortN l) := sort_go_srt l [] List.Pairwise.nil
theorem sortN_len (l : List Tn) : (sortN l).length = l.length := (sortN_perm l).length_eq

/-! ### what Canon says -/
/-- What is asked of a signature: which places join, and which unit they have. -/
structure Sg where
  joins : Int → Bool
  unit : Int → Option Int
def constT (u : Int) : Tn := ((noB, u), .nil)
def isConst (t : Tn) (u : Int) : Bool := noName t.1.1 && t.1.2 == u && lenF t.2 == 0
def isUn (S : Sg) (f : Int) (t : Tn) : Bool := match S.unit f with | some u => isConst t u | none => false
def headed (f : Int) (t : Tn) : Bool := noName t.1.1 && t.1.2 == f
def partsN (S : Sg) (f : Int) (t : Tn) : List Tn := if S.joins f = false then [t] else if isUn S f t then [] else if headed f t then kidsL t.2 else [t]
def joinL (S : Sg) (f : Int) : List Tn → Option Tn
  | [] => (S.unit f).map constT
  | [t] => some t
  | l => some ((noB, f), mkF (sortN l))
/-- Of canonical terms. -/
def joinN (S : Sg) (f : Int) (cs : List Tn) : Option Tn := if S.joins f = false then none else joinL S f (cs.flatMap (partsN S f))
def canon1 (S : Sg) (x : ByteArray × Int) (cs : List Tn) : Tn :=
  if noName x.1 = false then ((x.1, 0), .nil) else if S.joins x.2 then (joinN S x.2 cs).getD (constT x.2) else ((noB, x.2), mkF cs)
def canonL (S : Sg) : Fo → List Tn
  | .nil => []
  | .node _ _ x l r => canon1 S x (canonL S l) :: canonL S r
def canonT (S : Sg) (t : Tn) : Tn := canon1 S t.1 (canonL S t.2)
theorem canonL_map (S : Sg) : ∀ F : Fo, canonL S F = (kidsL F).map (canonT S)
  | .nil => rfl
  | .node _ _ x l r => by simp only [canonL, kidsL, List.map_cons, canonT]; rw [canonL_map S r]

/-! ### what is right -/
/-- What a right signature says of units: they don't join. -/
structure Sg.Ok (S : Sg) (ar : Int → Nat) : Prop where
  free : ∀ f u, S.unit f = some u → S.joins u = false
  none : ∀ f u, S.unit f = some u → ar u = 0
def nodeOk (S : Sg) (ar : Int → Nat) (x : ByteArray × Int) (n : Nat) : Prop := if noName x.1 = false then x.2 = 0 ∧ n = 0 else if S.joins x.2 then 2 ≤ n else n = ar x.2
def RightF (S : Sg) (ar : Int → Nat) : Fo → Prop
  | .nil => True
  | .node _ _ x l r => (nodeOk S ar x (lenF l) ∧ RightF S ar l) ∧ RightF S ar r
def RightT (S : Sg) (ar : Int → Nat) (t : Tn) : Prop := nodeOk S ar t.1 (lenF t.2) ∧ RightF S ar t.2
theorem right_kids {S : Sg} {ar : Int → Nat} : ∀ {F : Fo}, RightF S ar F ↔ ∀ k ∈ kidsL F, RightT S ar k
  | .nil => by simp [RightF, kidsL]
  | .node _ _ x l r => by
    simp only [RightF, kidsL, List.mem_cons]
    rw [right_kids (F := r)]
    constructor
    · rintro ⟨h1, h2⟩ k (rfl | hk)
      · exact h1
      · exact h2 k hk
    · exact fun h => ⟨h (x, l) (.inl rfl), fun k hk => h k (.inr hk)⟩

/-! ### canonical -/
/-- A node that is canonical above what is beneath it. -/
def can1 (S : Sg) (ar : Int → Nat) (x : ByteArray × Int) (ks : List Tn) : Prop :=
  if noName x.1 = false then x.2 = 0 ∧ ks = [] else x.1 = noB ∧ if S.joins x.2 then 2 ≤ ks.length ∧ Srt ks ∧ ∀ k ∈ ks, isUn S x.2 k = false ∧ headed x.2 k = false else ks.length = ar x.2
def CanF (S : Sg) (ar : Int → Nat) : Fo → Prop
  | .nil => True
  | .node b o x l r => (b = 0 ∧ o = 0) ∧ (can1 S ar x (kidsL l) ∧ CanF S ar l) ∧ CanF S ar r
def CanT (S : Sg) (ar : Int → Nat) (t : Tn) : Prop := can1 S ar t.1 (kidsL t.2) ∧ CanF S ar t.2
theorem can_kids {S : Sg} {ar : Int → Nat} : ∀ {F : Fo}, CanF S ar F → ∀ k ∈ kidsL F, CanT S ar k
  | .nil, _, _, h => by simp [kidsL] at h
  | .node _ _ _ _ _, ⟨_, h1, h2⟩, k, hk => by
    rcases List.mem_cons.1 hk with rfl | hk
    · exact h1
    · exact can_kids h2 k hk
theorem can_mk {S : Sg} {ar : Int → Nat} : ∀ {l : List Tn}, (∀ k ∈ l, CanT S ar k) → CanF S ar (mkF l)
  | [], _ => trivial
  | t :: _, h => ⟨⟨rfl, rfl⟩, h t List.mem_cons_self, can_mk (fun k hk => h k (List.mem_cons_of_mem _ hk))⟩
theorem can_mk_kids {S : Sg} {ar : Int → Nat} : ∀ {F : Fo}, CanF S ar F → mkF (kidsL F) = F
  | .nil, _ => rfl
  | .node _ _ _ _ _, ⟨⟨hb, ho⟩, _, h2⟩ => by subst hb ho; simp only [kidsL, mkF]; rw [can_mk_kids h2]

/-- Canonical terms that compare alike are one. -/
theorem canF_zero {S : Sg} {ar : Int → Nat} : ∀ {F G : Fo}, CanF S ar F → CanF S ar G → lenF F = lenF G → cmpF F G = 0 → F = G
  | .nil, .nil, _, _, _, _ => rfl
  | .nil, .node _ _ _ _ _, _, _, h, _ => by simp [lenF] at h
  | .node _ _ _ _ _, .nil, _, _, h, _ => by simp [lenF] at h
  | .node b o x l r, .node b' o' y m s, ⟨⟨hb, ho⟩, ⟨hx, hl⟩, hr⟩, ⟨⟨hb', ho'⟩, ⟨hy, hm⟩, hs⟩, hlen, h => by
    subst hb ho hb' ho'
    simp only [lenF, Nat.add_right_cancel_iff] at hlen
    rw [cmpF, thenC] at h
    split at h
    case isFalse hne => exact absurd h hne
    rename_i h1
    have hrs := canF_zero hr hs hlen h
    unfold cmp1 at h1
    unfold can1 at hx hy
    cases ex : noName x.1 <;> cases ey : noName y.1 <;> simp only [ex, ey, if_true, if_false, Bool.true_eq_false] at h1 hx hy
    · have hn : x.1 = y.1 := bytes_eq (bytes_zero h1)
      have e1 : l = .nil := len_nil (by rw [← kids_len, hx.2]; rfl)
      have e2 : m = .nil := len_nil (by rw [← kids_len, hy.2]; rfl)
      rw [hrs, e1, e2, show x = y from Prod.ext hn (hx.1.trans hy.1.symm)]
    · omega
    · omega
    · split at h1
      case isFalse hne => exact absurd (compareInt_zero h1) hne
      rename_i hs2
      split at h1
      case isFalse hne => exact absurd (by have := compareInt_zero h1; omega) hne
      rename_i hlm
      have hlm2 := canF_zero hl hm hlm h1
      rw [hrs, hlm2, show x = y from Prod.ext (hx.1.trans hy.1.symm) hs2]
theorem canT_zero {S : Sg} {ar : Int → Nat} {x y : Tn} (hx : CanT S ar x) (hy : CanT S ar y) (h : cmpN x y = 0) : x = y := by
  have h2 : BT.node 0 0 x.1 x.2 .nil = BT.node 0 0 y.1 y.2 .nil := canF_zero (F := .node 0 0 x.1 x.2 .nil) (G := .node 0 0 y.1 y.2 .nil) (S := S) (ar := ar) ⟨⟨rfl, rfl⟩, hx, trivial⟩ ⟨⟨rfl, rfl⟩, hy, trivial⟩ rfl (by
    rw [cmpF, thenC]
    have h' : cmp1 x.1 y.1 (lenF x.2) (lenF y.2) (cmpF x.2 y.2) = 0 := h
    rw [if_pos h', cmpF])
  simp only [BT.node.injEq, true_and, and_true] at h2
  exact Prod.ext h2.1 h2.2
/-- Terms in order are told by which they are. -/
theorem srt_eq {S : Sg} {ar : Int → Nat} {l m : List Tn} (hl : ∀ k ∈ l, CanT S ar k) (h1 : Srt l) (h2 : Srt m) (h : List.Perm l m) : l = m :=
  List.Perm.eq_of_pairwise (fun a b ha hb hab hba => canT_zero (hl a ha) (hl b (h.mem_iff.2 hb)) (by
    unfold leN at hab hba
    rw [cmpN_anti a b] at hba
    omega)) h1 h2 h
theorem sort_eq {S : Sg} {ar : Int → Nat} {l m : List Tn} (hl : ∀ k ∈ l, CanT S ar k) (h : List.Perm l m) : sortN l = sortN m :=
  srt_eq (fun k hk => hl k ((sortN_perm l).mem_iff.1 hk)) (sortN_srt l) (sortN_srt m) ((sortN_perm l).trans (h.trans (sortN_perm m).symm))
theorem sort_self {S : Sg} {ar : Int → Nat} {l : List Tn} (hl : ∀ k ∈ l, CanT S ar k) (h : Srt l) : sortN l = l :=
  srt_eq (fun k hk => hl k ((sortN_perm l).mem_iff.1 hk)) (sortN_srt l) h (sortN_perm l)
end Go.Proofs.Ytgidgmgpgfonnab
/- Canonical forms, without any program: a canonical term is told by its parts; Canon of a right term is canonical; what the axioms and cancelling say. -/
namespace Go.Proofs.Ytgidgmgpgfonnab
open Go.RowKit Go.Deep

structure Good (S : Sg) (ar : Int → Nat) (f : Int) (p : Tn) : Prop where
  can : CanT S ar p
  unit : isUn S f p = false
  head : headed f p = false

theorem headed_iff {f : Int} {t : Tn} : headed f t = true ↔ noName t.1.1 = true ∧ t.1.2 = f := by
  unfold headed
  rw [Bool.and_eq_true, beq_iff_eq]
theorem isUn_some {S : Sg} {f : Int} {t : Tn} (h : isUn S f t = true) : ∃ u, S.unit f = some u ∧ t = constT u := by
  unfold isUn at h
  cases hu : S.unit f with
  | none => rw [hu] at h; cases h
  | some u =>
    rw [hu] at h
    dsimp only at h
    unfold isConst at h
    rw [Bool.and_eq_true, Bool.and_eq_true, beq_iff_eq, beq_iff_eq] at h
    obtain ⟨⟨h1, h2⟩, h3⟩ := h
    obtain ⟨⟨n, s⟩, l⟩ := t
    refine ⟨u, rfl, ?_⟩
    have e1 : n = noB := noName_eq h1
    have e2 : s = u := h2
    have e3 : l = .nil := len_nil h3
    rw [e1, e2, e3]
    rfl
theorem isUn_const {S : Sg} {f u : Int} (h : S.unit f = some u) : isUn S f (constT u) = true := by
  unfold isUn
  rw [h]
  dsimp only
  unfold isConst constT
  simp [noName_noB, lenF]
theorem can_head {S : Sg} {ar : Int → Nat} {f : Int} {t : Tn} (hj : S.joins f = true) (h : CanT S ar t) (hh : headed f t = true) : t.1 = (noB, f) ∧ 2 ≤ (kidsL t.2).length ∧ Srt (kidsL t.2) ∧ ∀ k ∈ kidsL t.2, Good S ar f k := by
  obtain ⟨h1, h2⟩ := headed_iff.1 hh
  have hc := h.1
  unfold can1 at hc
  rw [if_neg (by rw [h1]; simp), h2, if_pos hj] at hc
  obtain ⟨c1, c2, c3, c4⟩ := hc
  exact ⟨Prod.ext c1 h2, c2, c3, fun k hk => ⟨can_kids h.2 k hk, (c4 k hk).1, (c4 k hk).2⟩⟩
theorem parts_good {S : Sg} {ar : Int → Nat} {f : Int} {t : Tn} (hj : S.joins f = true) (h : CanT S ar t) : ∀ p ∈ partsN S f t, Good S ar f p := by
  unfold partsN
  rw [if_neg (by simp [hj])]
  cases hu : isUn S f t with
  | true => simp
  | false =>
    cases hh : headed f t with
    | true => simpa using (can_head hj h hh).2.2.2
    | false =>
      intro p hp
      simp at hp
      subst hp
      exact ⟨h, hu, hh⟩
theorem parts_of_good {S : Sg} {ar : Int → Nat} {f : Int} {t : Tn} (h : Good S ar f t) : partsN S f t = [t] := by
  unfold partsN
  rw [h.unit, h.head]
  split <;> simp
theorem parts_nil {S : Sg} {ar : Int → Nat} {f : Int} {t : Tn} (hj : S.joins f = true) (h : CanT S ar t) (hp : partsN S f t = []) : ∃ u, S.unit f = some u := by
  unfold partsN at hp
  rw [if_neg (by simp [hj])] at hp
  cases hu : isUn S f t with
  | true => obtain ⟨u, h1, _⟩ := isUn_some hu; exact ⟨u, h1⟩
  | false =>
    rw [hu] at hp
    cases hh : headed f t with
    | true =>
      rw [hh] at hp
      simp only [Bool.false_eq_true, if_false, if_true] at hp
      have := (can_head hj h hh).2.1
      rw [hp] at this
      simp at this
    | false => rw [hh] at hp; simp at hp
theorem join_many (S : Sg) (f : Int) {l : List Tn} (h : 2 ≤ l.length) : joinL S f l = some ((noB, f), mkF (sortN l)) := by
  match l, h with
  | _ :: _ :: _, _ => rfl
theorem join_can {S : Sg} {ar : Int → Nat} (hS : S.Ok ar) {f : Int} {l : List Tn} {t : Tn} (hj : S.joins f = true) (hl : ∀ p ∈ l, Good S ar f p) (h : joinL S f l = some t) : CanT S ar t := by
  match l, hl, h with
  | [], _, h =>
    simp only [joinL, Option.map_eq_some_iff] at h
    obtain ⟨u, hu, rfl⟩ := h
    refine ⟨?_, trivial⟩
    unfold can1 constT
    dsimp only
    rw [if_neg (by simp [noName_noB]), hS.free f u hu]
    simp [kidsL, hS.none f u hu]
  | [a], hl, h =>
    simp only [joinL, Option.some.injEq] at h
    subst h
    exact (hl a (by simp)).can
  | a :: b :: r, hl, h =>
    simp only [joinL, Option.some.injEq] at h
    subst h
    have hm : ∀ k ∈ sortN (a :: b :: r), Good S ar f k := fun k hk => hl k ((sortN_perm _).mem_iff.1 hk)
    refine ⟨?_, can_mk (fun k hk => (hm k hk).can)⟩
    unfold can1
    dsimp only
    rw [if_neg (by simp [noName_noB]), if_pos hj, kids_mk]
    exact ⟨rfl, by rw [sortN_len]; simp, sortN_srt _, fun k hk => ⟨(hm k hk).unit, (hm k hk).head⟩⟩
theorem parts_join {S : Sg} {ar : Int → Nat} {f : Int} {l : List Tn} {t : Tn} (hj : S.joins f = true) (hl : ∀ p ∈ l, Good S ar f p) (h : joinL S f l = some t) : List.Perm (partsN S f t) l := by
  match l, hl, h with
  | [], _, h =>
    simp only [joinL, Option.map_eq_some_iff] at h
    obtain ⟨u, hu, rfl⟩ := h
    unfold partsN
    rw [if_neg (by simp [hj]), isUn_const hu]
    simp
  | [a], hl, h =>
    simp only [joinL, Option.some.injEq] at h
    subst h
    rw [parts_of_good (hl a (by simp))]
  | a :: b :: r, hl, h =>
    simp only [joinL, Option.some.injEq] at h
    subst h
    have hu : isUn S f ((noB, f), mkF (sortN (a :: b :: r))) = false := by
      cases hq : isUn S f ((noB, f), mkF (sortN (a :: b :: r))) with
      | false => rfl
      | true =>
        obtain ⟨u, _, e⟩ := isUn_some hq
        have := congrArg (fun t : Tn => lenF t.2) e
        simp only [constT, len_mk, sortN_len, lenF, List.length_cons] at this
        omega
    have hh : headed f ((noB, f), mkF (sortN (a :: b :: r))) = true := headed_iff.2 ⟨noName_noB, rfl⟩
    unfold partsN
    rw [if_neg (by simp [hj]), hu, hh]
    simp only [Bool.false_eq_true, if_false, if_true, kids_mk]
    exact sortN_perm _
theorem join_parts {S : Sg} {ar : Int → Nat} {f : Int} {t : Tn} (hj : S.joins f = true) (h : CanT S ar t) : joinL S f (partsN S f t) = some t := by
  unfold partsN
  rw [if_neg (by simp [hj])]
  cases hu : isUn S f t with
  | true =>
    obtain ⟨u, h1, rfl⟩ := isUn_some hu
    simp [joinL, h1]
  | false =>
    cases hh : headed f t with
    | true =>
      obtain ⟨c1, c2, c3, c4⟩ := can_head hj h hh
      simp only [Bool.false_eq_true, if_false, if_true]
      rw [join_many S f c2, sort_self (fun k hk => (c4 k hk).can) c3, can_mk_kids h.2, ← c1]
    | false => simp [joinL]
theorem join_perm {S : Sg} {ar : Int → Nat} {f : Int} {l m : List Tn} (hl : ∀ p ∈ l, CanT S ar p) (h : List.Perm l m) : joinL S f l = joinL S f m := by
  have hlen := h.length_eq
  match l, m, hlen, hl, h with
  | [], [], _, _, _ => rfl
  | [a], [b], _, _, h => rw [show a = b by simpa using h]
  | a :: b :: r, c :: d :: s, _, hl, h => simp only [joinL]; rw [sort_eq hl h]
/-- A canonical term is told by its parts. -/
theorem parts_inj {S : Sg} {ar : Int → Nat} {f : Int} {x y : Tn} (hj : S.joins f = true) (hx : CanT S ar x) (hy : CanT S ar y) (h : List.Perm (partsN S f x) (partsN S f y)) : x = y := by
  have h1 := join_parts hj hx
  rw [join_perm (fun p hp => (parts_good hj hx p hp).can) h, join_parts hj hy] at h1
  exact (Option.some.inj h1).symm

/-! ### Canon is canonical -/
theorem flat_good {S : Sg} {ar : Int → Nat} {f : Int} {cs : List Tn} (hj : S.joins f = true) (hc : ∀ c ∈ cs, CanT S ar c) : ∀ p ∈ cs.flatMap (partsN S f), Good S ar f p := fun p hp => by
  obtain ⟨c, h1, h2⟩ := List.mem_flatMap.1 hp
  exact parts_good hj (hc c h1) p h2
theorem join_some {S : Sg} {ar : Int → Nat} {f : Int} {cs : List Tn} (hj : S.joins f = true) (hc : ∀ c ∈ cs, CanT S ar c) (hn : cs ≠ []) : ∃ t, joinL S f (cs.flatMap (partsN S f)) = some t := by
  match hq : cs.flatMap (partsN S f) with
  | [] =>
    match cs, hn, hc with
    | c :: _, _, hc =>
      simp only [List.flatMap_cons, List.append_eq_nil_iff] at hq
      obtain ⟨u, hu⟩ := parts_nil hj (hc c (by simp)) hq.1
      exact ⟨constT u, by simp [joinL, hu]⟩
  | [a] => exact ⟨a, rfl⟩
  | a :: b :: r => exact ⟨_, rfl⟩
theorem canon1_join {S : Sg} {ar : Int → Nat} {x : ByteArray × Int} {cs : List Tn} (hx : noName x.1 = true) (hj : S.joins x.2 = true) (hc : ∀ c ∈ cs, CanT S ar c) (hn : cs ≠ []) : joinL S x.2 (cs.flatMap (partsN S x.2)) = some (canon1 S x cs) := by
  obtain ⟨t, ht⟩ := join_some hj hc hn
  unfold canon1 joinN
  rw [if_neg (by simp [hx]), if_pos hj, if_neg (by simp [hj]), ht]
  rfl
theorem canon1_can {S : Sg} {ar : Int → Nat} (hS : S.Ok ar) {x : ByteArray × Int} {cs : List Tn} (hn : nodeOk S ar x cs.length) (hc : ∀ c ∈ cs, CanT S ar c) : CanT S ar (canon1 S x cs) := by
  unfold nodeOk at hn
  cases hx : noName x.1 with
  | false =>
    unfold canon1
    rw [if_pos hx]
    refine ⟨?_, trivial⟩
    unfold can1
    rw [if_pos hx]
    exact ⟨rfl, rfl⟩
  | true =>
    rw [if_neg (by simp [hx])] at hn
    cases hj : S.joins x.2 with
    | true =>
      rw [if_pos hj] at hn
      have hne : cs ≠ [] := fun e => by rw [e] at hn; simp at hn
      exact join_can hS hj (flat_good hj hc) (canon1_join hx hj hc hne)
    | false =>
      rw [if_neg (by simp [hj])] at hn
      unfold canon1
      rw [if_neg (by simp [hx]), if_neg (by simp [hj])]
      refine ⟨?_, can_mk hc⟩
      unfold can1
      dsimp only
      rw [if_neg (by simp [noName_noB]), if_neg (by simp [hj]), kids_mk]
      exact ⟨rfl, hn⟩
theorem canonL_can {S : Sg} {ar : Int → Nat} (hS : S.Ok ar) : ∀ {F : Fo}, RightF S ar F → ∀ c ∈ canonL S F, CanT S ar c
  | .nil, _, _, h => by simp [canonL] at h
  | .node _ _ x l r, ⟨⟨h1, h2⟩, h3⟩, c, hc => by
    simp only [canonL, List.mem_cons] at hc
    rcases hc with rfl | hc
    · exact canon1_can hS (by rw [canonL_map, List.length_map, kids_len]; exact h1) (canonL_can hS h2)
    · exact canonL_can hS h3 c hc
theorem canonT_can {S : Sg} {ar : Int → Nat} (hS : S.Ok ar) {t : Tn} (h : RightT S ar t) : CanT S ar (canonT S t) :=
  canon1_can hS (by rw [canonL_map, List.length_map, kids_len]; exact h.1) (canonL_can hS h.2)

/-! ### a canonical term is its own form -/
theorem flat_self {S : Sg} {ar : Int → Nat} {f : Int} : ∀ {l : List Tn}, (∀ p ∈ l, Good S ar f p) → l.flatMap (partsN S f) = l
  | [], _ => rfl
  | a :: r, h => by rw [List.flatMap_cons, parts_of_good (h a (by simp)), flat_self (fun p hp => h p (by simp [hp]))]; rfl
theorem canon1_id {S : Sg} {ar : Int → Nat} {x : ByteArray × Int} {l : Fo} (h : can1 S ar x (kidsL l)) (hl : CanF S ar l) : canon1 S x (kidsL l) = (x, l) := by
  cases hx : noName x.1 with
  | false =>
    unfold can1 at h
    rw [if_pos hx] at h
    unfold canon1
    rw [if_pos hx]
    have e : l = .nil := len_nil (by rw [← kids_len, h.2]; rfl)
    rw [e, ← h.1]
  | true =>
    cases hj : S.joins x.2 with
    | true =>
      have hc : CanT S ar (x, l) := ⟨h, hl⟩
      obtain ⟨c1, c2, c3, c4⟩ := can_head hj hc (headed_iff.2 ⟨hx, rfl⟩)
      have hne : kidsL l ≠ [] := fun e => by rw [e] at c2; simp at c2
      have h1 := canon1_join hx hj (can_kids hl) hne
      rw [flat_self c4, join_many S x.2 c2, sort_self (fun k hk => (c4 k hk).can) c3, can_mk_kids hl, Option.some.injEq] at h1
      rw [← h1, ← show x = (noB, x.2) from c1]
    | false =>
      unfold can1 at h
      rw [if_neg (by simp [hx])] at h
      unfold canon1
      rw [if_neg (by simp [hx]), if_neg (by simp [hj]), can_mk_kids hl]
      exact Prod.ext (Prod.ext h.1.symm rfl) rfl
theorem canonL_id {S : Sg} {ar : Int → Nat} : ∀ {F : Fo}, CanF S ar F → canonL S F = kidsL F
  | .nil, _ => rfl
  | .node _ _ x l r, ⟨_, ⟨h1, h2⟩, h3⟩ => by
    simp only [canonL, kidsL]
    rw [canonL_id h2, canonL_id h3, canon1_id h1 h2]
theorem canonT_id {S : Sg} {ar : Int → Nat} {t : Tn} (h : CanT S ar t) : canonT S t = t := by
  unfold canonT
  rw [canonL_id h.2, canon1_id h.1 h.2]
theorem right_of_can1 {S : Sg} {ar : Int → Nat} {x : ByteArray × Int} {l : Fo} (h : can1 S ar x (kidsL l)) : nodeOk S ar x (lenF l) := by
  unfold can1 at h
  unfold nodeOk
  cases hx : noName x.1 with
  | false =>
    rw [if_pos hx] at h
    rw [if_pos rfl]
    exact ⟨h.1, by rw [← kids_len, h.2]; rfl⟩
  | true =>
    rw [if_neg (by simp [hx])] at h
    rw [if_neg (by simp)]
    cases hj : S.joins x.2 with
    | true => rw [if_pos hj] at h; rw [if_pos rfl, ← kids_len]; exact h.2.1
    | false => rw [if_neg (by simp [hj])] at h; rw [if_neg (by simp), ← kids_len]; exact h.2
theorem right_of_canF {S : Sg} {ar : Int → Nat} : ∀ {F : Fo}, CanF S ar F → RightF S ar F
  | .nil, _ => trivial
  | .node _ _ _ _ _, ⟨_, ⟨h1, h2⟩, h3⟩ => ⟨⟨right_of_can1 h1, right_of_canF h2⟩, right_of_canF h3⟩
theorem right_of_can {S : Sg} {ar : Int → Nat} {t : Tn} (h : CanT S ar t) : RightT S ar t := ⟨right_of_can1 h.1, right_of_canF h.2⟩
theorem canonT_twice {S : Sg} {ar : Int → Nat} (hS : S.Ok ar) {t : Tn} (h : RightT S ar t) : canonT S (canonT S t) = canonT S t := canonT_id (canonT_can hS h)
/-- Written alike, just if they are one. -/
theorem same_iff {S : Sg} {ar : Int → Nat} (hS : S.Ok ar) {a b : Tn} (ha : RightT S ar a) (hb : RightT S ar b) : cmpN (canonT S a) (canonT S b) = 0 ↔ canonT S a = canonT S b :=
  ⟨canT_zero (canonT_can hS ha) (canonT_can hS hb), fun e => by rw [e]; have := cmpN_anti (canonT S b) (canonT S b); omega⟩
end Go.Proofs.Ytgidgmgpgfonnab
/- Canonical forms, without any program: no more nodes, the same variables, parts in order and joined again. -/
namespace Go.Proofs.Ytgidgmgpgfonnab
open Go.RowKit Go.Deep

/-! ### how many nodes -/
def sizeT (t : Tn) : Nat := nodesF t.2 + 1
def sizes (l : List Tn) : Nat := (l.map sizeT).sum
theorem sizes_nil : sizes [] = 0 := rfl
theorem sizes_cons (t : Tn) (l : List Tn) : sizes (t :: l) = sizeT t + sizes l := by simp [sizes]
theorem sizes_append : ∀ l m : List Tn, sizes (l ++ m) = sizes l + sizes m
  | [], _ => by simp [sizes_nil]
  | t :: l, m => by rw [List.cons_append, sizes_cons, sizes_cons, sizes_append l m]; omega
theorem sizes_perm {l m : List Tn} (h : List.Perm l m) : sizes l = sizes m := by
  induction h with
  | nil => rfl
  | cons x _ ih => rw [sizes_cons, sizes_cons, ih]
  | swap x y l => simp only [sizes_cons]; omega
  | trans _ _ h1 h2 => exact h1.trans h2
theorem nodes_sizes : ∀ F : Fo, nodesF F = sizes (kidsL F)
  | .nil => rfl
  | .node _ _ x l r => by
    rw [kidsL, sizes_cons, ← nodes_sizes r]
    simp only [nodesF, sizeT]
    omega
theorem nodes_mk (l : List Tn) : nodesF (mkF l) = sizes l := by rw [nodes_sizes, kids_mk]
theorem parts_size (S : Sg) (f : Int) (t : Tn) : sizes (partsN S f t) ≤ sizeT t := by
  unfold partsN
  split
  · simp [sizes_cons, sizes_nil]
  · split
    · simp [sizes_nil]
    · split
      · rw [← nodes_sizes]; unfold sizeT; omega
      · simp [sizes_cons, sizes_nil]
theorem flat_size (S : Sg) (f : Int) : ∀ cs : List Tn, sizes (cs.flatMap (partsN S f)) ≤ sizes cs
  | [] => Nat.le_refl _
  | c :: r => by
    rw [List.flatMap_cons, sizes_append, sizes_cons]
    have := parts_size S f c
    have := flat_size S f r
    omega
theorem join_size {S : Sg} {f : Int} {l : List Tn} {t : Tn} (h : joinL S f l = some t) : sizeT t ≤ sizes l + 1 := by
  match l, h with
  | [], h =>
    simp only [joinL, Option.map_eq_some_iff] at h
    obtain ⟨u, _, rfl⟩ := h
    simp [sizeT, constT, nodesF]
  | [a], h =>
    simp only [joinL, Option.some.injEq] at h
    subst h
    simp [sizes_cons, sizes_nil]
  | a :: b :: r, h =>
    simp only [joinL, Option.some.injEq] at h
    subst h
    show nodesF (mkF (sortN (a :: b :: r))) + 1 ≤ _
    rw [nodes_mk, sizes_perm (sortN_perm _)]
    exact Nat.le_refl _
theorem canon1_size (S : Sg) (x : ByteArray × Int) (cs : List Tn) : sizeT (canon1 S x cs) ≤ sizes cs + 1 := by
  unfold canon1
  split
  · simp [sizeT, nodesF]
  · split
    · unfold joinN
      split
      · simp [sizeT, constT, nodesF]
      · cases h : joinL S x.2 (cs.flatMap (partsN S x.2)) with
        | none => simp [sizeT, constT, nodesF]
        | some t =>
          have := join_size h
          have := flat_size S x.2 cs
          simp only [Option.getD_some]
          omega
    · show nodesF (mkF cs) + 1 ≤ _
      rw [nodes_mk]
      exact Nat.le_refl _
theorem canonL_size (S : Sg) : ∀ F : Fo, sizes (canonL S F) ≤ nodesF F
  | .nil => Nat.le_refl _
  | .node _ _ x l r => by
    rw [canonL, sizes_cons, nodesF]
    have := canon1_size S x (canonL S l)
    have := canonL_size S l
    have := canonL_size S r
    omega
theorem canonT_size (S : Sg) (t : Tn) : nodesF (canonT S t).2 + 1 ≤ nodesF t.2 + 1 := by
  have := canon1_size S t.1 (canonL S t.2)
  have := canonL_size S t.2
  show sizeT (canonT S t) ≤ _
  unfold canonT
  omega

/-! ### which variables -/
def inF (nm : List UInt8) : Fo → Prop
  | .nil => False
  | .node _ _ x l r => ((noName x.1 = false ∧ x.1.data.toList = nm) ∨ inF nm l) ∨ inF nm r
def inT (nm : List UInt8) (t : Tn) : Prop := (noName t.1.1 = false ∧ t.1.1.data.toList = nm) ∨ inF nm t.2
theorem inF_kids {nm : List UInt8} : ∀ {F : Fo}, inF nm F ↔ ∃ k ∈ kidsL F, inT nm k
  | .nil => by simp [inF, kidsL]
  | .node _ _ x l r => by
    rw [inF, inF_kids (F := r), kidsL]
    constructor
    · rintro (h | ⟨k, hk, h⟩)
      · exact ⟨(x, l), by simp, h⟩
      · exact ⟨k, by simp [hk], h⟩
    · rintro ⟨k, hk, h⟩
      rcases List.mem_cons.1 hk with rfl | hk
      · exact .inl h
      · exact .inr ⟨k, hk, h⟩
theorem inT_none {nm : List UInt8} {f : Int} {l : Fo} : inT nm ((noB, f), l) ↔ inF nm l := by
  unfold inT
  simp [noName_noB]
theorem parts_in {S : Sg} {ar : Int → Nat} {f : Int} {c : Tn} {nm : List UInt8} (hj : S.joins f = true) (h : CanT S ar c) : inT nm c ↔ ∃ p ∈ partsN S f c, inT nm p := by
  unfold partsN
  rw [if_neg (by simp [hj])]
  cases hu : isUn S f c with
  | true =>
    obtain ⟨u, _, rfl⟩ := isUn_some hu
    unfold constT
    rw [inT_none]
    simp [inF]
  | false =>
    cases hh : headed f c with
    | true =>
      obtain ⟨c1, _, _, _⟩ := can_head hj h hh
      obtain ⟨x, l⟩ := c
      dsimp only at c1
      subst c1
      rw [inT_none, inF_kids]
      simp
    | false => simp
theorem join_in {S : Sg} {f : Int} {l : List Tn} {t : Tn} {nm : List UInt8} (h : joinL S f l = some t) : inT nm t ↔ ∃ p ∈ l, inT nm p := by
  match l, h with
  | [], h =>
    simp only [joinL, Option.map_eq_some_iff] at h
    obtain ⟨u, _, rfl⟩ := h
    unfold constT
    rw [inT_none]
    simp [inF]
  | [a], h =>
    simp only [joinL, Option.some.injEq] at h
    subst h
    simp
  | a :: b :: r, h =>
    simp only [joinL, Option.some.injEq] at h
    subst h
    rw [inT_none, inF_kids, kids_mk]
    constructor
    · rintro ⟨k, hk, h⟩; exact ⟨k, (sortN_perm _).mem_iff.1 hk, h⟩
    · rintro ⟨k, hk, h⟩; exact ⟨k, (sortN_perm _).mem_iff.2 hk, h⟩
theorem canon1_in {S : Sg} {ar : Int → Nat} {x : ByteArray × Int} {l : Fo} {cs : List Tn} {nm : List UInt8} (hn : nodeOk S ar x (lenF l)) (hl : cs.length = lenF l) (hc : ∀ c ∈ cs, CanT S ar c) (h : (∃ c ∈ cs, inT nm c) ↔ inF nm l) : inT nm (canon1 S x cs) ↔ inT nm (x, l) := by
  unfold nodeOk at hn
  cases hx : noName x.1 with
  | false =>
    rw [if_pos hx] at hn
    have e : l = .nil := len_nil hn.2
    subst e
    unfold canon1
    rw [if_pos hx]
    unfold inT
    simp [inF]
  | true =>
    have ex : x = (noB, x.2) := Prod.ext (noName_eq hx) rfl
    rw [if_neg (by simp [hx])] at hn
    have h2 : inT nm (x, l) ↔ inF nm l := by rw [ex]; exact inT_none
    rw [h2, ← h]
    cases hj : S.joins x.2 with
    | true =>
      rw [if_pos hj] at hn
      have hne : cs ≠ [] := fun e => by rw [e] at hl; simp at hl; omega
      rw [join_in (canon1_join hx hj hc hne)]
      constructor
      · rintro ⟨p, hp, hi⟩
        obtain ⟨c, h3, h4⟩ := List.mem_flatMap.1 hp
        exact ⟨c, h3, (parts_in hj (hc c h3)).2 ⟨p, h4, hi⟩⟩
      · rintro ⟨c, h3, hi⟩
        obtain ⟨p, h4, h5⟩ := (parts_in hj (hc c h3)).1 hi
        exact ⟨p, List.mem_flatMap.2 ⟨c, h3, h4⟩, h5⟩
    | false =>
      unfold canon1
      rw [if_neg (by simp [hx]), if_neg (by simp [hj]), inT_none, inF_kids, kids_mk]
theorem canonL_in {S : Sg} {ar : Int → Nat} (hS : S.Ok ar) {nm : List UInt8} : ∀ {F : Fo}, RightF S ar F → ((∃ c ∈ canonL S F, inT nm c) ↔ inF nm F)
  | .nil, _ => by simp [canonL, inF]
  | .node _ _ x l r, ⟨⟨h1, h2⟩, h3⟩ => by
    have e := canon1_in h1 (by rw [canonL_map, List.length_map, kids_len]) (canonL_can hS h2) (canonL_in hS (nm := nm) h2)
    rw [inF, ← canonL_in hS h3, canonL]
    constructor
    · rintro ⟨c, hc, hi⟩
      rcases List.mem_cons.1 hc with rfl | hc
      · exact .inl (e.1 hi)
      · exact .inr ⟨c, hc, hi⟩
    · rintro (h | ⟨c, hc, hi⟩)
      · exact ⟨_, List.mem_cons_self, e.2 h⟩
      · exact ⟨c, List.mem_cons_of_mem _ hc, hi⟩
theorem canonT_in {S : Sg} {ar : Int → Nat} (hS : S.Ok ar) {nm : List UInt8} {t : Tn} (h : RightT S ar t) : inT nm (canonT S t) ↔ inT nm t :=
  canon1_in h.1 (by rw [canonL_map, List.length_map, kids_len]) (canonL_can hS h.2) (canonL_in hS h.2)

/-! ### parts, in order and joined again -/
theorem parts_srt {S : Sg} {ar : Int → Nat} {f : Int} {t : Tn} (hj : S.joins f = true) (h : CanT S ar t) : Srt (partsN S f t) := by
  unfold partsN
  rw [if_neg (by simp [hj])]
  cases isUn S f t with
  | true => simp
  | false =>
    cases hh : headed f t with
    | true => simpa using (can_head hj h hh).2.2.1
    | false => simp
theorem map_can {S : Sg} {ar : Int → Nat} {l : List Tn} (h : ∀ p ∈ l, CanT S ar p) : l.map (canonT S) = l := by
  induction l with
  | nil => rfl
  | cons a r ih => rw [List.map_cons, canonT_id (h a (by simp)), ih (fun p hp => h p (by simp [hp]))]
/-- Join of a canonical term's parts. -/
theorem join_back {S : Sg} {ar : Int → Nat} {f : Int} {t : Tn} (hj : S.joins f = true) (h : CanT S ar t) : joinN S f ((partsN S f t).map (canonT S)) = some t := by
  rw [map_can (fun p hp => (parts_good hj h p hp).can)]
  unfold joinN
  rw [if_neg (by simp [hj]), flat_self (parts_good hj h)]
  exact join_parts hj h
/-- Join of the parts of two. -/
theorem join_two {S : Sg} {ar : Int → Nat} {f : Int} {a b : Tn} (hj : S.joins f = true) (ha : CanT S ar a) (hb : CanT S ar b) : joinN S f ((partsN S f a ++ partsN S f b).map (canonT S)) = joinL S f (partsN S f a ++ partsN S f b) := by
  have hg : ∀ p ∈ partsN S f a ++ partsN S f b, Good S ar f p := fun p hp => by
    rcases List.mem_append.1 hp with h | h
    · exact parts_good hj ha p h
    · exact parts_good hj hb p h
  rw [map_can (fun p hp => (hg p hp).can)]
  unfold joinN
  rw [if_neg (by simp [hj]), flat_self hg]
end Go.Proofs.Ytgidgmgpgfonnab
/- What Find answers: the program's and the document's. -/
namespace Go.Proofs.Ytgidgmgpgfonnab
open Go.RowKit

def FindRet (l : List Sym) (nm : ByteArray) (e : Ending) : Prop := e = .returned (.tuple #[.int .i64 (findI l nm), .bool (findB l nm)])

set_option maxHeartbeats 400000 in
theorem rfind_any (a : Option Addr) (n cap : Nat) (l : List Sym) (nm : ByteArray) (w : World) (h : SigAt w a n l) :
    Calls Try.prog 86 #[.slice a n cap, .string nm] w fun e w' => FindRet l nm e ∧ w' = w := by
  obtain ⟨hl, hm, hcells, _⟩ := h
  unfold maxLen at hm
  have HL : Hid (n = l.length) := hl
  clear hl
  have HC : Hid (∀ i (h : i < l.length), ∃ b off, a = some ⟨b, off, none⟩ ∧ SymAt w b (off + i * 4) l[i]) := hcells
  clear hcells
  go_enter Try.func86, Try.ntmps86
  go_wp2
  go_loop [6] (fun i => ∃ k : Nat, k ≤ n ∧ i = .int .i64 k ∧ ∀ j (hj : j < l.length), j < k → sameB l[j].name nm = false) (fun i => n - (intOf i).toNat)
  case atStart => exact ⟨0, Nat.zero_le _, rfl, fun j _ h => absurd h (by omega)⟩
  case round =>
    obtain ⟨k, hk, rfl, hno⟩ := hrel
    have HN : Hid (∀ j (hj : j < l.length), j < k → sameB l[j].name nm = false) := hno
    clear hno
    by_cases hlt : k < n
    · have hlk : k < l.length := by have := HL.out; omega
      obtain ⟨b, off, rfl, hw⟩ := HC.out k hlk
      have c0 := hw.name
      clear hw
      cases ht : (l[k].name.toList == nm.toList)
      · go_wp2
        go_round
        case rel => exact ⟨k + 1, by omega, by go_num, fun j hj h => by
          rcases Nat.lt_succ_iff_lt_or_eq.1 h with h | rfl
          · exact HN.out j hj h
          · exact ht⟩
        case measure => simp [intOf]; omega
      · have hf : Hid (findL l nm = some k) := find_hit hlk ht HN.out
        go_wp2
        go_ret2
        exact ⟨by unfold FindRet; rw [findI_some hf.out, findB_some hf.out]; rfl, rfl⟩
    · have hf : Hid (findL l nm = none) := find_miss fun j hj => HN.out j hj (by have := HL.out; omega)
      go_wp2
      go_ret2
      exact ⟨by unfold FindRet; rw [findI_none hf.out, findB_none hf.out]; rfl, rfl⟩
end Go.Proofs.Ytgidgmgpgfonnab
/- What Unit answers: the program's and the document's. -/
namespace Go.Proofs.Ytgidgmgpgfonnab
open Go.RowKit

def unitAt (l : List Sym) (z : Int) : Option Nat := if h : 0 ≤ z ∧ z.toNat < l.length then (if (l[z.toNat]'h.2).kind = 3 then findL l (l[z.toNat]'h.2).unit else none) else none
def unitI (l : List Sym) (z : Int) : Int := match unitAt l z with | some i => i | none => 0
def unitOk (l : List Sym) (z : Int) : Bool := (unitAt l z).isSome
def UnitRet (l : List Sym) (z : Int) (e : Ending) : Prop := e = .returned (.tuple #[.int .i64 (unitI l z), .bool (unitOk l z)])

theorem unit_out {l : List Sym} {z : Int} (h : ¬ (0 ≤ z ∧ z.toNat < l.length)) : unitAt l z = none := by simp [unitAt, h]
theorem unit_not {l : List Sym} {k : Nat} (hk : k < l.length) (h : l[k].kind ≠ 3) : unitAt l k = none := by
  unfold unitAt
  rw [dif_pos ⟨by omega, by simpa using hk⟩, if_neg (by simpa using h)]
theorem unit_is {l : List Sym} {k : Nat} (hk : k < l.length) (h : l[k].kind = 3) : unitAt l k = findL l l[k].unit := by
  unfold unitAt
  rw [dif_pos ⟨by omega, by simpa using hk⟩, if_pos (by simpa using h)]
  simp
theorem unitI_none {l : List Sym} {z : Int} (h : unitAt l z = none) : unitI l z = 0 := by simp [unitI, h]
theorem unitOk_none {l : List Sym} {z : Int} (h : unitAt l z = none) : unitOk l z = false := by simp [unitOk, h]
theorem unitI_is {l : List Sym} {z : Int} {nm : ByteArray} (h : unitAt l z = findL l nm) : unitI l z = findI l nm := by unfold unitI findI; rw [h] <;> rfl
theorem unitOk_is {l : List Sym} {z : Int} {nm : ByteArray} (h : unitAt l z = findL l nm) : unitOk l z = findB l nm := by simp [unitOk, findB, h]

set_option maxHeartbeats 400000 in
theorem runit_any (a : Option Addr) (n cap : Nat) (l : List Sym) (z : Int) (w : World) (h : SigAt w a n l) :
    Calls Try.prog 66 #[.slice a n cap, .int .i64 z] w fun e w' => UnitRet l z e ∧ w' = w := by
  have HS : Hid (SigAt w a n l) := h
  have hm := h.small
  unfold maxLen at hm
  clear h
  by_cases h0 : z < 0
  · have hu : Hid (unitAt l z = none) := unit_out (by omega)
    go_enter Try.func66, Try.ntmps66
    go_wp2
    go_ret2
    exact ⟨by unfold UnitRet; rw [unitI_none hu.out, unitOk_none hu.out]; rfl, rfl⟩
  · obtain ⟨k, rfl⟩ := Int.eq_ofNat_of_zero_le (by omega : 0 ≤ z)
    by_cases h1 : (n : Int) ≤ k
    · have hu : Hid (unitAt l k = none) := unit_out (by have := HS.out.len; omega)
      go_enter Try.func66, Try.ntmps66
      go_wp2
      go_ret2
      exact ⟨by unfold UnitRet; rw [unitI_none hu.out, unitOk_none hu.out]; rfl, rfl⟩
    · have hlk : k < l.length := by have := HS.out.len; omega
      obtain ⟨b, off, rfl, hw⟩ := HS.out.cells k hlk
      have c1 := hw.kind
      have c3 := hw.unit
      clear hw
      cases hk : (l[k].kind != 3)
      · have hu : Hid (unitAt l k = findL l l[k].unit) := unit_is hlk (by simpa using hk)
        go_enter Try.func66, Try.ntmps66
        go_wp2_with fail
        refine (rfind_any _ _ _ l _ _ HS.out).mono ?_
        rintro e w1 ⟨he, hb⟩
        unfold FindRet at he
        subst he
        rw [hb]
        go_wp2
        go_ret2
        exact ⟨by unfold UnitRet; rw [unitI_is hu.out, unitOk_is hu.out]; rfl, rfl⟩
      · have hu : Hid (unitAt l k = none) := unit_not hlk (by simpa using hk)
        go_enter Try.func66, Try.ntmps66
        go_wp2
        go_ret2
        exact ⟨by unfold UnitRet; rw [unitI_none hu.out, unitOk_none hu.out]; rfl, rfl⟩
end Go.Proofs.Ytgidgmgpgfonnab
/- What rightArity, rightUnit and checkSymbol answer. -/
namespace Go.Proofs.Ytgidgmgpgfonnab
open Go.RowKit

def unitB2 (l : List Sym) (x : Sym) : Bool := if x.kind = 3 then l.any (fun y => isUnit x y && emptyB y.unit) else emptyB x.unit
theorem unitB2_not {l : List Sym} {x : Sym} (hk : x.kind ≠ 3) : unitB2 l x = emptyB x.unit := by simp [unitB2, hk]
theorem unitB2_hit {l : List Sym} {x : Sym} (hk : x.kind = 3) {k : Nat} (hlk : k < l.length) (h : (isUnit x l[k] && emptyB l[k].unit) = true) : unitB2 l x = true := by
  unfold unitB2
  rw [if_pos hk, List.any_eq_true]
  exact ⟨l[k], List.getElem_mem hlk, h⟩
theorem unitB2_miss {l : List Sym} {x : Sym} (hk : x.kind = 3) (h : ∀ j (hj : j < l.length), (isUnit x l[j] && emptyB l[j].unit) = false) : unitB2 l x = false := by
  unfold unitB2
  rw [if_pos hk, List.any_eq_false]
  intro y hy
  obtain ⟨j, hj, rfl⟩ := List.getElem_of_mem hy
  rw [h j hj]; simp

end Go.Proofs.Ytgidgmgpgfonnab
/- What Check answers, plainly: the first symbol that may not be. -/
namespace Go.Proofs.Ytgidgmgpgfonnab
open Go.RowKit

def errAt (l : List Sym) (i : Nat) : Int := if h : i < l.length then symErr (l.take i) l[i] else 0
def firstErr (l : List Sym) : Option Nat := (List.range l.length).find? fun i => errAt l i != 0
def checkE (l : List Sym) : Int := if 16 < l.length then 15 else match firstErr l with | some i => errAt l i | none => 0
def checkP (l : List Sym) : Int := if 16 < l.length then 0 else match firstErr l with | some i => (i : Int) | none => 0

theorem firstErr_hit {l : List Sym} {k : Nat} (hk : k < l.length) (h : errAt l k ≠ 0) (hno : ∀ j, j < k → errAt l j = 0) : firstErr l = some k := by
  unfold firstErr
  rw [List.find?_range_eq_some]
  refine ⟨by simpa using h, by simpa using hk, fun j hj => by simp [hno j hj]⟩
theorem firstErr_miss {l : List Sym} (hno : ∀ j, j < l.length → errAt l j = 0) : firstErr l = none := by
  unfold firstErr
  rw [List.find?_eq_none]
  intro j hj
  simp only [List.mem_range] at hj
  simp [hno j hj]
theorem checkE_hit {l : List Sym} {k : Nat} (h16 : ¬ 16 < l.length) (h : firstErr l = some k) : checkE l = errAt l k := by simp [checkE, h16, h]
theorem checkP_hit {l : List Sym} {k : Nat} (h16 : ¬ 16 < l.length) (h : firstErr l = some k) : checkP l = k := by simp [checkP, h16, h]
theorem checkE_miss {l : List Sym} (h16 : ¬ 16 < l.length) (h : firstErr l = none) : checkE l = 0 := by simp [checkE, h16, h]
theorem checkP_miss {l : List Sym} (h16 : ¬ 16 < l.length) (h : firstErr l = none) : checkP l = 0 := by simp [checkP, h16, h]

theorem symErr_unit {l : List Sym} {x : Sym} (h : symErr l x = 0) : unitB l x = true := by
  unfold symErr at h
  split at h
  · omega
  · split at h
    · omega
    · split at h
      · omega
      · split at h
        · omega
        · rename_i hu; simpa using hu
theorem unitB2_eq {l : List Sym} {x : Sym} (h : ∀ y ∈ l, y.kind = 1 → emptyB y.unit = true) : unitB2 l x = unitB l x := by
  unfold unitB2 unitB
  split
  · rw [Bool.eq_iff_iff, List.any_eq_true, List.any_eq_true]
    constructor
    · rintro ⟨y, hy, h1⟩; exact ⟨y, hy, by simp at h1; exact h1.1⟩
    · rintro ⟨y, hy, h1⟩
      refine ⟨y, hy, ?_⟩
      rw [h1, h y hy (by simp [isUnit] at h1; exact h1.1.1)]; rfl
  · rfl
theorem free_empty {l : List Sym} {k : Nat} (hk : k ≤ l.length) (hno : ∀ j, j < k → errAt l j = 0) : ∀ y ∈ l.take k, y.kind = 1 → emptyB y.unit = true := by
  intro y hy h1
  obtain ⟨j, hj, rfl⟩ := List.getElem_of_mem hy
  have hjk : j < k := by simp at hj; omega
  have hjl : j < l.length := by omega
  have h0 := hno j hjk
  unfold errAt at h0
  rw [dif_pos hjl] at h0
  have hu := symErr_unit h0
  have e : (l.take k)[j] = l[j] := by simp
  rw [e] at h1 ⊢
  unfold unitB at hu
  rw [if_neg (by omega)] at hu
  exact hu
theorem SigAt.take {w : World} {a : Option Addr} {n : Nat} {l : List Sym} (h : SigAt w a n l) (k : Nat) (hk : k ≤ n) : SigAt w a k (l.take k) :=
  ⟨by have := h.len; simp; omega, by have := h.small; omega, fun i hi => by
    have hi' : i < l.length := by simp at hi; omega
    obtain ⟨b, off, ha, hc⟩ := h.cells i hi'
    exact ⟨b, off, ha, by simpa using hc⟩, fun x hx => h.fits x (List.mem_of_mem_take hx)⟩
end Go.Proofs.Ytgidgmgpgfonnab
/- A signature as Canon sees it: which places join, and which unit they have; what a right signature and a right term say of it. -/
namespace Go.Proofs.Ytgidgmgpgfonnab
open Go.RowKit Go.Deep

def symAt (l : List Sym) (f : Int) : Option Sym := if 0 ≤ f then l[f.toNat]? else none
def joinsAt (l : List Sym) (f : Int) : Bool := match symAt l f with | some x => decide (x.kind = 2) || decide (x.kind = 3) | none => false
def arAt (l : List Sym) (f : Int) : Nat := match symAt l f with | some x => x.arity.toNat | none => 0
def sgOf (l : List Sym) : Sg := ⟨joinsAt l, fun f => (unitAt l f).map fun (i : Nat) => (i : Int)⟩
theorem symAt_in {l : List Sym} {k : Nat} (h : k < l.length) : symAt l (k : Int) = some l[k] := by
  unfold symAt
  rw [if_pos (by omega), Int.toNat_natCast, List.getElem?_eq_getElem h]
theorem symAt_out {l : List Sym} {f : Int} (h : ¬ (0 ≤ f ∧ f.toNat < l.length)) : symAt l f = none := by
  unfold symAt
  split
  · rw [List.getElem?_eq_none_iff]; omega
  · rfl

/-! ### a right signature -/
theorem symErr_zero {l : List Sym} {x : Sym} (h : symErr l x = 0) : findB l x.name = false ∧ kindB x = true ∧ arityB x = true ∧ unitB l x = true := by
  unfold symErr at h
  split at h
  · omega
  · rename_i h1
    split at h
    · omega
    · rename_i h2
      split at h
      · omega
      · rename_i h3
        split at h
        · omega
        · rename_i h4
          exact ⟨by simpa using fun e => h1 (.inl e), by simpa using h2, by simpa using h3, by simpa using h4⟩
theorem right_each {l : List Sym} (h : checkE l = 0) {k : Nat} (hk : k < l.length) : symErr (l.take k) l[k] = 0 := by
  unfold checkE at h
  split at h
  · omega
  · cases hf : firstErr l with
    | none =>
      unfold firstErr at hf
      rw [List.find?_eq_none] at hf
      have := hf k (List.mem_range.2 hk)
      unfold errAt at this
      rw [dif_pos hk] at this
      simpa using this
    | some i =>
      rw [hf] at h
      dsimp only at h
      have := List.find?_some hf
      rw [h] at this
      simp at this
theorem sameB_iff (a b : ByteArray) : sameB a b = true ↔ a = b := by
  unfold sameB
  rw [beq_iff_eq, ByteArray.toList_eq, ByteArray.toList_eq]
  exact ⟨bytes_eq, fun h => by rw [h]⟩
theorem find_at {l : List Sym} {nm : ByteArray} {i : Nat} (h : findL l nm = some i) : ∃ hi : i < l.length, l[i].name = nm ∧ ∀ j (hj : j < i), (l[j]'(by omega)).name ≠ nm := by
  unfold findL at h
  rw [List.findIdx?_eq_some_iff_getElem] at h
  obtain ⟨hi, h1, h2⟩ := h
  refine ⟨hi, (sameB_iff _ _).1 h1, fun j hj e => ?_⟩
  have := h2 j hj
  rw [(sameB_iff _ _).2 e] at this
  simp at this
theorem unit_facts {l : List Sym} (h : checkE l = 0) {f : Int} {i : Nat} (hu : unitAt l f = some i) : ∃ hi : i < l.length, l[i].kind = 1 ∧ l[i].arity = 0 := by
  unfold unitAt at hu
  split at hu
  · rename_i hf
    split at hu
    · rename_i hk
      obtain ⟨hi, h1, h2⟩ := find_at hu
      have he := symErr_zero (right_each h hf.2)
      have hub := he.2.2.2
      unfold unitB at hub
      rw [if_pos hk, List.any_eq_true] at hub
      obtain ⟨y, hy, hyu⟩ := hub
      obtain ⟨k, hkl, rfl⟩ := List.getElem_of_mem hy
      have hk0 : k < f.toNat ∧ k < l.length := by rw [List.length_take] at hkl; omega
      rw [List.getElem_take] at hyu
      unfold isUnit at hyu
      simp only [Bool.and_eq_true, decide_eq_true_eq] at hyu
      obtain ⟨⟨q1, q2⟩, q3⟩ := hyu
      rw [sameB_iff] at q3
      have hik : i = k := by
        rcases Nat.lt_trichotomy i k with hlt | heq | hgt
        · have hfresh := (symErr_zero (right_each h hk0.2)).1
          unfold findB at hfresh
          have : findL (l.take k) l[k].name ≠ none := by
            unfold findL
            rw [Ne, List.findIdx?_eq_none_iff]
            intro hno
            have := hno (l[i]) (by rw [List.mem_take_iff_getElem]; exact ⟨i, by omega, rfl⟩)
            rw [(sameB_iff _ _).2 (h1.trans q3.symm)] at this
            simp at this
          rw [Option.isSome_eq_false_iff, Option.isNone_iff_eq_none] at hfresh
          exact absurd hfresh this
        · exact heq
        · exact absurd q3 (h2 k hgt)
      subst hik
      exact ⟨hi, q1, q2⟩
    · cases hu
  · cases hu
theorem sg_ok {l : List Sym} (h : checkE l = 0) : (sgOf l).Ok (arAt l) := by
  have hu : ∀ f u, (sgOf l).unit f = some u → joinsAt l u = false ∧ arAt l u = 0 := by
    intro f u hu
    simp only [sgOf, Option.map_eq_some_iff] at hu
    obtain ⟨i, hi, rfl⟩ := hu
    obtain ⟨hlt, hk, ha⟩ := unit_facts h hi
    unfold joinsAt arAt
    rw [symAt_in hlt]
    simp [hk, ha]
  exact ⟨fun f u e => (hu f u e).1, fun f u e => (hu f u e).2⟩

/-! ### a right term -/
theorem node_right {l : List Sym} (h : checkE l = 0) {x : ByteArray × Int} {n : Nat} (hn : nodeErr l x n = 0) : nodeOk (sgOf l) (arAt l) x n := by
  unfold nodeErr at hn
  unfold nodeOk
  split at hn
  · rename_i hx
    rw [if_pos hx]
    unfold varErr at hn
    split at hn
    · rename_i h1; exact ⟨h1.2.1, h1.2.2⟩
    · omega
  · rename_i hx
    rw [if_neg hx]
    split at hn
    · rename_i h0
      split at hn
      · rename_i s hs
        split at hn
        · rename_i ht
          have hs' : symAt l x.2 = some s := by unfold symAt; rw [if_pos h0]; exact hs
          have hlt : x.2.toNat < l.length := by
            rcases Nat.lt_or_ge x.2.toNat l.length with h | h
            · exact h
            · rw [List.getElem?_eq_none_iff.2 h] at hs; cases hs
          have hsk : l[x.2.toNat] = s := by rw [List.getElem?_eq_getElem hlt] at hs; exact Option.some.inj hs
          have hkb := (symErr_zero (right_each h hlt)).2.1
          have hab := (symErr_zero (right_each h hlt)).2.2.1
          rw [hsk] at hkb hab
          unfold takesB at ht
          show if joinsAt l x.2 = true then 2 ≤ n else n = arAt l x.2
          unfold joinsAt arAt
          rw [hs']
          dsimp only
          unfold kindB at hkb
          unfold arityB at hab
          by_cases h1 : s.kind = 1
          · rw [if_pos h1] at ht hab
            rw [if_neg (by simp [h1])]
            simp only [beq_iff_eq] at ht
            omega
          · rw [if_neg h1] at ht
            rw [if_pos (by simpa [h1] using hkb)]
            simpa using ht
        · omega
      · omega
    · omega
theorem then_zero {a b : Int} (h : thenC a b = 0) : a = 0 ∧ b = 0 := by
  unfold thenC at h
  split at h
  · exact ⟨by assumption, h⟩
  · omega
theorem errF_right {l : List Sym} (h : checkE l = 0) : ∀ {F : Fo}, errF l F = 0 → RightF (sgOf l) (arAt l) F
  | .nil, _ => trivial
  | .node _ _ x m r, he => by
    rw [errF] at he
    obtain ⟨h1, h2⟩ := then_zero he
    obtain ⟨h3, h4⟩ := then_zero h1
    exact ⟨⟨node_right h h3, errF_right h h4⟩, errF_right h h2⟩
theorem errT_right {l : List Sym} (h : checkE l = 0) {x : ByteArray × Int} {m : Fo} (he : errT l x m = 0) : RightT (sgOf l) (arAt l) (x, m) := by
  unfold errT at he
  obtain ⟨h3, h4⟩ := then_zero he
  exact ⟨node_right h h3, errF_right h h4⟩
end Go.Proofs.Ytgidgmgpgfonnab
