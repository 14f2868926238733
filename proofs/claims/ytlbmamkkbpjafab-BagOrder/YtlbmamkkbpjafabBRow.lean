/- Rows of items in memory that are written within: what Delete does. -/
import Derived.Test.YtlbmamkkbpjafabBCount
import Derived.Laws.CopyRow
import Derived.Laws.IdiomCopy
import Derived.Lib.SliceRun
import Derived.Deep.RegionLaw
import Derived.Shelf.RegionOpenPlain
namespace Go.Proofs.Ytlbmamkkbpjafab
open Go.RowKit Go.Deep

/-- Only blocks of A have turned. -/
structure Fr (A : Nat → Prop) (w w' : World) : Prop where
  low : Below 0 w w'
  same : ∀ k, k < w.heap.size → ¬ A k → w'.heap[k]? = w.heap[k]?
theorem Fr.refl (A : Nat → Prop) (w : World) : Fr A w w := ⟨Below.refl _ _, fun _ _ _ => rfl⟩
theorem Fr.trans {A : Nat → Prop} {x y z : World} (h : Fr A x y) (k : Fr A y z) : Fr A x z := ⟨h.low.trans k.low, fun q hq hA => (k.same q (Nat.lt_of_lt_of_le hq h.low.size) hA).trans (h.same q hq hA)⟩
theorem Fr.of_below {A : Nat → Prop} {x y : World} (h : Below x.heap.size x y) : Fr A x y := ⟨h.mono (Nat.zero_le _), fun q hq _ => h.block q hq⟩
theorem Fr.below {A : Nat → Prop} {x y : World} {n : Nat} (h : Fr A x y) (hn : ∀ k, A k → n ≤ k) (hs : n ≤ x.heap.size) : Below n x y := ⟨h.low.os, h.low.tape, h.low.output, h.low.size, fun k hk => h.same k (by omega) (fun hA => by have := hn k hA; omega)⟩
theorem set_far {W : World} {g i q : Nat} (h : q ≠ g) (a : Value) : (W.setCell ⟨g, i, none⟩ a).heap[q]? = W.heap[q]? := Below.heap_setCell W ⟨g, i, none⟩ a q h
theorem block_set {W : World} {b k : Nat} {cs : Array Value} {t : TypeId} {fr : Nat × Nat} (h : W.heap[b]? = some (.cells cs t fr)) (v : Value) : (W.setCell ⟨b, k, none⟩ v).heap[b]? = some (.cells (cs.setIfInBounds k v) t fr) := by
  obtain ⟨hlt, he⟩ := Array.getElem?_eq_some_iff.1 h
  simp [World.setCell, Array.getElem?_modify, h]
/-- A row, written over from a place on. -/
def ovr (cur : List Value) (o : Nat) (vs : List Value) : List Value := cur.take o ++ vs ++ cur.drop (o + vs.length)
theorem ovr_len {cur : List Value} {o : Nat} {vs : List Value} (h : o + vs.length ≤ cur.length) : (ovr cur o vs).length = cur.length := by
  unfold ovr
  simp only [List.length_append, List.length_take, List.length_drop]
  omega
theorem setCells_row {g : Nat} {t : TypeId} {fr : Nat × Nat} : ∀ (vs : List Value) (o : Nat) (W : World) (cur : Array Value), W.heap[g]? = some (.cells cur t fr) → o + vs.length ≤ cur.size → (W.setCells g o vs).heap[g]? = some (.cells (ovr cur.toList o vs).toArray t fr)
  | [], o, W, cur, h, _ => by
    show W.heap[g]? = _
    rw [h]
    unfold ovr
    simp
  | v :: r, o, W, cur, h, hl => by
    have h1 := block_set (k := o) h v
    have h2 := setCells_row r (o + 1) (W.setCell ⟨g, o, none⟩ v) _ h1 (by simp at hl ⊢; omega)
    rw [World.setCells]
    rw [h2]
    congr 3
    have hl' : o < cur.toList.length := by simp at hl ⊢; omega
    unfold ovr
    rw [Array.toList_setIfInBounds]
    have e1 : (cur.toList.set o v).take (o + 1) = cur.toList.take o ++ [v] := by
      rw [List.take_add_one, List.getElem?_set_self hl', List.take_set_of_le (Nat.le_refl _)]
      rfl
    have e2 : (cur.toList.set o v).drop (o + 1 + r.length) = cur.toList.drop (o + (v :: r).length) := by
      rw [List.drop_set_of_lt (by omega)]
      congr 1
      simp only [List.length_cons]
      omega
    rw [e1, e2]
    simp
theorem setCells_fr {g : Nat} : ∀ (vs : List Value) (o : Nat) (W : World), Fr (fun q => q = g) W (W.setCells g o vs)
  | [], _, W => Fr.refl _ W
  | v :: r, o, W => by
    rw [World.setCells]
    exact Fr.trans ⟨(Below.refl _ W).setCell (p := ⟨g, o, none⟩) (Nat.zero_le _) v, fun q _ hq => set_far hq v⟩ (setCells_fr r (o + 1) _)
def itCells (x : It) : List Value := [.int .i64 x.1.1, .int .i64 x.1.2, .int .i64 x.2]
def itAll (l : List It) : List Value := l.flatMap itCells
theorem itAll_len : ∀ l : List It, (itAll l).length = l.length * 3
  | [] => rfl
  | x :: r => by
    have := itAll_len r
    simp only [itAll, List.flatMap_cons, List.length_append, List.length_cons] at this ⊢
    simp only [itCells, List.length_cons, List.length_nil]
    omega
theorem itAll_append (a b : List It) : itAll (a ++ b) = itAll a ++ itAll b := by simp [itAll]
theorem itAll_one (l : List It) : ∀ u ∈ itAll l, u.oneCell' = true := fun u hu => by
  obtain ⟨x, _, h⟩ := List.mem_flatMap.1 hu
  simp [itCells] at h
  rcases h with rfl | rfl | rfl <;> rfl
theorem itAll_drop : ∀ (l : List It) (i : Nat), (itAll l).drop (i * 3) = itAll (l.drop i)
  | l, 0 => by simp
  | [], i + 1 => by simp [itAll]
  | x :: r, i + 1 => by
    show (itCells x ++ itAll r).drop ((i + 1) * 3) = itAll (r.drop i)
    rw [← itAll_drop r i, List.drop_append, List.drop_eq_nil_of_le (by simp [itCells]; omega), List.nil_append]
    congr 1
    show (i + 1) * 3 - 3 = _
    omega
/-- A row of items with room behind them. -/
structure RowIt (W : World) (g cap : Nat) (l : List It) : Prop where
  row : ∃ cur, W.heap[g]? = some (.cells cur 32 (0, 0)) ∧ cur.size = cap * 3 ∧ cur.toList.take (l.length * 3) = itAll l
  fits : l.length ≤ cap
  small : cap ≤ maxLen
theorem itAll_take : ∀ (l : List It) (i : Nat), (itAll l).take (i * 3) = itAll (l.take i)
  | l, 0 => by simp [itAll]
  | [], i + 1 => by simp [itAll]
  | x :: r, i + 1 => by
    show (itCells x ++ itAll r).take ((i + 1) * 3) = itCells x ++ itAll (r.take i)
    rw [← itAll_take r i, List.take_append, List.take_of_length_le (by simp [itCells]; omega)]
    congr 2
    show (i + 1) * 3 - 3 = _
    omega
set_option maxRecDepth 100000 in
theorem Try.info32 : (Try.prog.info? 32).map (fun i => (i.zero, i.size, i.bytes)) = some (some (.agg #[.int .i64 0, .int .i64 0, .int .i64 0]), 3, 24) := by kernel_rfl
theorem zero65 (w : World) : (zeroValue 32).run Try.prog w = .ok (.agg #[.int .i64 0, .int .i64 0, .int .i64 0]) w := by kernel_rfl
set_option maxRecDepth 100000 in
theorem run_clear3 (w : World) (ty : TypeId) (b o c : Nat) (hc : ∀ j, j < 3 → (w.cell? ⟨b, o + j, none⟩).isSome = true) (hf : ∀ j, j < 3 → w.frozen? ⟨b, o + j, none⟩ = false) :
    (Builtin.clear_ #[29] ty #[.slice (some ⟨b, o, none⟩) 1 c]).run Try.prog w = .ok (.tuple #[]) (w.setCells b o [.int .i64 0, .int .i64 0, .int .i64 0]) := by
  have hst := run_storeCells_cells (P := Try.prog) b o [.int .i64 0, .int .i64 0, .int .i64 0] 0 w (by simpa using hc) (by simpa using hf) (by intro v hv'; simp at hv'; rw [hv']; rfl)
  simp only [Nat.add_zero] at hst
  have hzc : (Builtin.zeroCells (Value.agg #[.int .i64 0, .int .i64 0, .int .i64 0]).cells 1).toList = [.int .i64 0, .int .i64 0, .int .i64 0] := by kernel_rfl
  simp [Builtin.clear_, run_underlying Try.underlying29, hzc, hst]
theorem RowIt.cells {W : World} {g cap : Nat} {l : List It} (h : RowIt W g cap l) {j : Nat} {v : Value} (hv : (itAll l)[j]? = some v) : W.cell? ⟨g, j, none⟩ = some v := by
  obtain ⟨cur, h1, h2, h3⟩ := h.row
  rw [← h3, List.getElem?_take] at hv
  split at hv
  · rw [Array.getElem?_toList] at hv
    exact cell_box h1 hv
  · cases hv
theorem RowIt.any {W : World} {g cap : Nat} {l : List It} (h : RowIt W g cap l) {j : Nat} (hj : j < cap * 3) : (W.cell? ⟨g, j, none⟩).isSome = true ∧ W.frozen? ⟨g, j, none⟩ = false := by
  obtain ⟨cur, h1, h2, _⟩ := h.row
  refine ⟨?_, by simp [World.frozen?, h1]⟩
  rw [cell_box h1 (Array.getElem?_eq_getElem (by omega : j < cur.size))]
  rfl

set_option maxRecDepth 100000 in
set_option maxHeartbeats 4000000 in
/-- Delete of one item. -/
theorem delete_any (g cap i : Nat) (l : List It) (w : World) (hR : RowIt w g cap l) (hi : i < l.length) (hn : l.length ≤ 1048576) :
    Calls Try.prog 15 #[.slice (some ⟨g, 0, none⟩) l.length cap, .int .i64 i, .int .i64 ((i : Int) + 1)] w fun e w' => e = .returned (.slice (some ⟨g, 0, none⟩) (l.length - 1) cap) ∧ RowIt w' g cap (l.eraseIdx i) ∧ Fr (fun q => q = g) w w' := by
  obtain ⟨i0, hi0, hz0, hz1, hz2⟩ := info_parts Try.info32
  have hfit := hR.fits
  have hsm := hR.small
  unfold maxLen at hsm
  obtain ⟨news, hnews⟩ : ∃ news, news = itAll (l.drop (i + 1)) := ⟨_, rfl⟩
  have hlen : news.length = (l.length - (i + 1)) * 3 := by rw [hnews, itAll_len, List.length_drop]
  obtain ⟨A, hA, hsrc⟩ : ∃ A : Addr, (if cap = i + 1 then some (⟨g, 0, none⟩ : Addr) else some ⟨g, (i + 1) * 3, none⟩) = some A ∧ Hid (∀ t u, news[t]? = some u → w.drew.cell? (A.add t) = some u) := by
    by_cases h : cap = i + 1
    · refine ⟨⟨g, 0, none⟩, by simp [h], fun t u hu => ?_⟩
      have h0 : news.length = 0 := by rw [hlen]; omega
      rw [List.length_eq_zero_iff.1 h0] at hu
      simp at hu
    · refine ⟨⟨g, (i + 1) * 3, none⟩, by simp [h], fun t u hu => ?_⟩
      rw [Addr.add_lit]
      refine hR.cells ?_
      rw [hnews, ← itAll_drop, List.getElem?_drop] at hu
      exact hu
  have s1 : Hid (news.length = (l.length - (i + 1)) * 3) := hlen
  have s2 : Hid (∀ u ∈ news, u.oneCell' = true) := hid (by rw [hnews]; exact itAll_one _)
  have s3 : Hid (∀ t, t < news.length → (w.drew.cell? ⟨g, 0 + i * 3 + t, none⟩).isSome = true ∧ w.drew.frozen? ⟨g, 0 + i * 3 + t, none⟩ = false) := hid fun t ht => by
    rw [hlen] at ht
    rw [Nat.zero_add]
    exact hR.any (by omega)
  obtain ⟨W1, hW1⟩ : ∃ W1, W1 = w.drew.setCells g (0 + i * 3) news := ⟨_, rfl⟩
  have hW : Hid (W1 = w.drew.setCells g (0 + i * 3) news) := hW1
  obtain ⟨cur, hg, hcs, hct⟩ := hR.row
  have hg1 : W1.heap[g]? = some (.cells (ovr cur.toList (i * 3) news).toArray 32 (0, 0)) := by
    rw [hW1, Nat.zero_add]
    exact setCells_row news (i * 3) w.drew cur hg (by omega)
  have hF1 : Fr (fun q => q = g) w W1 := by
    rw [hW1]
    exact Fr.trans (y := w.drew) ⟨(Below.refl _ w).drew, fun _ _ _ => rfl⟩ (setCells_fr _ _ _)
  have hol : (ovr cur.toList (i * 3) news).length = cap * 3 := by
    have e : cur.toList.length = cur.size := rfl
    rw [ovr_len (by omega), e, hcs]
  have HC : Hid (∀ ty o m c, o = (l.length - 1) * 3 → m = 1 → (Builtin.clear_ #[29] ty #[.slice (some ⟨g, o, none⟩) m c]).run Try.prog W1 = .ok (.tuple #[]) (W1.setCells g ((l.length - 1) * 3) [.int .i64 0, .int .i64 0, .int .i64 0])) := hid fun ty o m c ho hm => by
    subst ho hm
    exact run_clear3 W1 ty g _ c (fun j hj => by rw [cell_box hg1 (by rw [List.getElem?_toArray]; exact List.getElem?_eq_getElem (by omega))]; rfl) (fun j hj => by simp [World.frozen?, hg1])
  have HG1 := hid hg1; have HF1 := hid hF1; have HOL := hid hol; have HCT := hid hct; have HCS := hid hcs; have HNW := hid hnews
  have hic : i ≤ cap := by omega
  have hjc : i + 1 ≤ cap := by omega
  have hIn : (i : Int) < (l.length : Int) := by omega
  have hIn2 : (0 : Int) ≤ (i : Int) + 1 := by omega
  have hIn3 : (i : Int) + 1 ≤ (l.length : Int) := by omega
  have mixed : Try.prog.follows .mixedOrders = true := by kernel_rfl
  have hcl := HC.out 0 ((i + (l.length - (i + 1))) * 3) (l.length - (i + (l.length - (i + 1)))) (cap - (i + (l.length - (i + 1)))) (by omega) (by omega)
  clear hg hcs hct hg1 hF1 hol hW1 hnews hlen HC
  go_enter Try.func15, Try.ntmps15
  go_wp2_with fail
  go_region_law_o (refine step_append_room rfl (.tmp 22) (.tmp 25) 29 rfl 32 i0 3 Try.underlying29 hi0 hz1 g 0 i cap (by simp [Act.eval, Act.put]) A (l.length - (i + 1)) (cap - (i + 1)) news (by simp [Act.eval, Act.put]) s1.out hsrc.out s2.out (by omega) s3.out ?_; rw [← hW.out])
  go_wp2
  go_ret
  have hlast : i + (l.length - (i + 1)) = l.length - 1 := by omega
  have hlen := s1.out
  refine ⟨by rw [hlast]; rfl, ⟨⟨(ovr (ovr cur.toList (i * 3) news) ((l.length - 1) * 3) [.int .i64 0, .int .i64 0, .int .i64 0]).toArray, ?_, ?_, ?_⟩, ?_, hR.small⟩, HF1.out.trans (setCells_fr _ _ _)⟩
  · exact setCells_row (g := g) _ _ W1 _ HG1.out (by show (l.length - 1) * 3 + 3 ≤ (ovr cur.toList (i * 3) news).length; rw [HOL.out]; omega)
  · show (ovr (ovr cur.toList (i * 3) news) ((l.length - 1) * 3) [.int .i64 0, .int .i64 0, .int .i64 0]).length = cap * 3
    rw [ovr_len (by rw [HOL.out]; show (l.length - 1) * 3 + 3 ≤ _; omega), HOL.out]
  · have hle : (l.eraseIdx i).length = l.length - 1 := List.length_eraseIdx_of_lt hi
    rw [hle]
    have e0 : cur.toList.take (i * 3) = itAll (l.take i) := by
      rw [← itAll_take, ← HCT.out, List.take_take, Nat.min_eq_left (by omega)]
    have e1 : ((cur.toList.take (i * 3)) ++ news).length = (l.length - 1) * 3 := by
      rw [List.length_append, e0, itAll_len, hlen, List.length_take]
      omega
    show (ovr (ovr cur.toList (i * 3) news) ((l.length - 1) * 3) [.int .i64 0, .int .i64 0, .int .i64 0]).take ((l.length - 1) * 3) = _
    unfold ovr
    rw [List.append_assoc (List.take ((l.length - 1) * 3) _), List.take_append_of_le_length (by rw [List.length_take]; have h := HOL.out; unfold ovr at h; rw [h]; omega), List.take_take, Nat.min_self, List.take_append_of_le_length (by omega), ← e1, List.take_length, e0, HNW.out, ← itAll_append, ← List.eraseIdx_eq_take_drop_succ]
  · rw [List.length_eraseIdx_of_lt hi]
    omega
end Go.Proofs.Ytlbmamkkbpjafab
