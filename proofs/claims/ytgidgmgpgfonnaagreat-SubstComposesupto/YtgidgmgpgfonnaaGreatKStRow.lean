import Derived.Shelf.SlicesQ.Load
import Derived.Test.YtgidgmgpgfonnaaGreatKStP
/- Rows of elements of three cells each, read and written element by element. -/
namespace Go.Proofs.YtgidgmgpgfonnaaGreat
open Go.RowKit Go.Deep

/-- How an element lies in its cells. -/
structure Enc {α : Type} (enc : α → List Value) : Prop where
  len : ∀ x, (enc x).length = 4
  one : ∀ x, ∀ v ∈ enc x, v.oneCell' = true
section
variable {α : Type} {enc : α → List Value}
theorem all_len (E : Enc enc) : ∀ l : List α, (l.flatMap enc).length = l.length * 4
  | [] => rfl
  | x :: r => by
    rw [List.flatMap_cons, List.length_append, all_len E r, E.len, List.length_cons]
    omega
theorem all_drop (E : Enc enc) : ∀ (l : List α) (i : Nat), (l.flatMap enc).drop (i * 4) = (l.drop i).flatMap enc
  | l, 0 => by simp
  | [], i + 1 => by simp
  | x :: r, i + 1 => by
    rw [List.flatMap_cons, List.drop_succ_cons, ← all_drop E r i, List.drop_append, List.drop_eq_nil_of_le (by rw [E.len]; omega), List.nil_append, E.len]
    congr 1
    omega
theorem all_take (E : Enc enc) : ∀ (l : List α) (i : Nat), (l.flatMap enc).take (i * 4) = (l.take i).flatMap enc
  | l, 0 => by simp
  | [], i + 1 => by simp
  | x :: r, i + 1 => by
    rw [List.flatMap_cons, List.take_succ_cons, List.flatMap_cons, ← all_take E r i, List.take_append, List.take_of_length_le (by rw [E.len]; omega), E.len]
    congr 2
    omega
theorem all_at (E : Enc enc) (l : List α) (i : Nat) (hi : i < l.length) (k : Nat) (hk : k < 4) : (l.flatMap enc)[i * 4 + k]? = (enc l[i])[k]? := by
  rw [← List.getElem?_drop, all_drop E, List.drop_eq_getElem_cons hi, List.flatMap_cons, List.getElem?_append_left (by rw [E.len]; exact hk)]
theorem all_set (E : Enc enc) (l : List α) (i : Nat) (hi : i < l.length) (y : α) : (l.flatMap enc).take (i * 4) ++ enc y ++ (l.flatMap enc).drop (i * 4 + (enc y).length) = (l.set i y).flatMap enc := by
  rw [E.len, show i * 4 + 4 = (i + 1) * 4 by omega, all_drop E, all_take E, List.set_eq_take_append_cons_drop, if_pos hi, List.flatMap_append, List.flatMap_cons, List.append_assoc]
/-- A row of elements with room behind them. -/
structure Rw (enc : α → List Value) (W : World) (g cap : Nat) (l : List α) : Prop where
  row : ∃ cur, W.heap[g]? = some (.cells cur 43 (0, 0)) ∧ cur.size = cap * 4 ∧ cur.toList.take (l.length * 4) = l.flatMap enc
  fits : l.length ≤ cap
  small : cap ≤ maxLen
theorem Rw.cells {W : World} {g cap : Nat} {l : List α} (h : Rw enc W g cap l) {j : Nat} {v : Value} (hv : (l.flatMap enc)[j]? = some v) : W.cell? ⟨g, j, none⟩ = some v := by
  obtain ⟨cur, h1, h2, h3⟩ := h.row
  rw [← h3, List.getElem?_take] at hv
  split at hv
  · rw [Array.getElem?_toList] at hv
    exact cell_box h1 hv
  · cases hv
theorem Rw.any {W : World} {g cap : Nat} {l : List α} (h : Rw enc W g cap l) {j : Nat} (hj : j < cap * 4) : (W.cell? ⟨g, j, none⟩).isSome = true ∧ W.frozen? ⟨g, j, none⟩ = false := by
  obtain ⟨cur, h1, h2, _⟩ := h.row
  refine ⟨?_, by simp [World.frozen?, h1]⟩
  rw [cell_box h1 (Array.getElem?_eq_getElem (by omega : j < cur.size))]
  rfl
theorem Rw.load {W : World} {g cap : Nat} {l : List α} (E : Enc enc) (h : Rw enc W g cap l) (P : Program) (i : Nat) (hi : i < l.length) :
    Sem.run P (loadCellsFrom ⟨g, i * 4, none⟩ 0 4 #[]) W = .ok (enc l[i]).toArray W :=
  run_loadCellsFrom_list P _ _ _ 4 (E.len _) fun j v hv => by
    have hj : j < 4 := by
      have := (List.getElem?_eq_some_iff.1 hv).1
      rwa [E.len] at this
    rw [Addr.add_lit]
    exact h.cells (by rw [all_at E l i hi j hj]; exact hv)
theorem Rw.store {W : World} {g cap : Nat} {l : List α} (E : Enc enc) (h : Rw enc W g cap l) (P : Program) (i : Nat) (hi : i < l.length) (y : α) :
    Sem.run P (storeCells ⟨g, i * 4, none⟩ (enc y) 0) W = .ok () (W.setCells g (i * 4) (enc y)) := by
  have hf := h.fits
  have hst := run_storeCells_cells (P := P) g (i * 4) (enc y) 0 W (fun j hj => by rw [E.len] at hj; exact (h.any (j := i * 4 + 0 + j) (by omega)).1) (fun j hj => by rw [E.len] at hj; exact (h.any (j := i * 4 + 0 + j) (by omega)).2) (E.one y)
  simpa only [Nat.add_zero] using hst
theorem ovr_head {F R vs : List Value} {o n : Nat} (h : o + vs.length ≤ F.length) (hn : F.length = n) : (ovr (F ++ R) o vs).take n = F.take o ++ vs ++ F.drop (o + vs.length) := by
  unfold ovr
  rw [List.take_append_of_le_length (l₁ := F) (l₂ := R) (by omega : o ≤ F.length), List.drop_append_of_le_length h, ← List.append_assoc]
  refine List.take_left' ?_
  simp only [List.length_append, List.length_take, List.length_drop]
  omega
theorem Rw.put {W : World} {g cap : Nat} {l : List α} (E : Enc enc) (h : Rw enc W g cap l) (i : Nat) (hi : i < l.length) (y : α) : Rw enc (W.setCells g (i * 4) (enc y)) g cap (l.set i y) := by
  obtain ⟨cur, h1, h2, h3⟩ := h.row
  have hf := h.fits
  have hc : cur.toList.length = cap * 4 := by rw [Array.length_toList]; exact h2
  have hb : i * 4 + (enc y).length ≤ cur.size := by rw [E.len]; omega
  refine ⟨⟨_, setCells_row (enc y) (i * 4) W cur h1 hb, ?_, ?_⟩, by rw [List.length_set]; exact hf, h.small⟩
  · show (ovr cur.toList (i * 4) (enc y)).length = _
    rw [ovr_len (by rw [Array.length_toList]; exact hb), hc]
  · show (ovr cur.toList (i * 4) (enc y)).take _ = _
    rw [List.length_set, ← all_set E l i hi y]
    have hC : cur.toList = l.flatMap enc ++ cur.toList.drop (l.length * 4) := by rw [← h3, List.take_append_drop]
    rw [hC]
    exact ovr_head (by rw [all_len E]; rw [E.len]; omega) (all_len E l)
theorem Rw.fr {A : Nat → Prop} {W W' : World} {g cap : Nat} {l : List α} (h : Rw enc W g cap l) (hf : Fr A W W') (hA : ¬ A g) : Rw enc W' g cap l := by
  obtain ⟨cur, h1, h2⟩ := h.row
  exact ⟨⟨cur, (hf.same g (Array.getElem?_eq_some_iff.1 h1).1 hA).trans h1, h2⟩, h.fits, h.small⟩
theorem Rw.below {W W' : World} {g cap : Nat} {l : List α} (h : Rw enc W g cap l) (hb : Below W.heap.size W W') : Rw enc W' g cap l := h.fr (Fr.of_below (A := fun _ => False) hb) (fun h => h)
theorem Rw.drew {W : World} {g cap : Nat} {l : List α} (h : Rw enc W g cap l) : Rw enc W.drew g cap l := ⟨h.row, h.fits, h.small⟩
theorem Rw.lt {W : World} {g cap : Nat} {l : List α} (h : Rw enc W g cap l) : g < W.heap.size := by
  obtain ⟨cur, h1, _⟩ := h.row
  exact (Array.getElem?_eq_some_iff.1 h1).1
/-- What the sort has come to: the row, and nothing else has turned. -/
structure So (enc : α → List Value) (w : World) (g cap : Nat) (l : List α) (W : World) : Prop where
  row : Rw enc W g cap l
  fr : Fr (fun q => q = g) w W
theorem So.below {w W W' : World} {g cap : Nat} {l : List α} (h : So enc w g cap l W) (hb : Below W.heap.size W W') : So enc w g cap l W' := ⟨h.row.below hb, h.fr.trans (Fr.of_below hb)⟩
theorem So.put {w W : World} {g cap : Nat} {l : List α} (E : Enc enc) (h : So enc w g cap l W) (i : Nat) (hi : i < l.length) (y : α) : So enc w g cap (l.set i y) (W.setCells g (i * 4) (enc y)) := ⟨h.row.put E i hi y, h.fr.trans (setCells_fr _ _ _)⟩
theorem So.drew {w W : World} {g cap : Nat} {l : List α} (h : So enc w g cap l W) : So enc w g cap l W.drew := ⟨h.row.drew, h.fr.trans ⟨(Below.refl _ W).drew, fun _ _ _ => rfl⟩⟩
theorem So.trans {w W : World} {g cap : Nat} {l m : List α} {W' : World} (h : So enc w g cap l W) (k : So enc W g cap m W') : So enc w g cap m W' := ⟨k.row, h.fr.trans k.fr⟩
/-- Two places exchanged. -/
theorem set_two (A B C : List α) (x y : α) : ((A ++ x :: (B ++ y :: C)).set A.length y).set (A.length + 1 + B.length) x = A ++ y :: (B ++ x :: C) := by
  rw [List.set_append_right _ _ (Nat.le_refl _), Nat.sub_self, List.set_cons_zero, List.set_append_right _ _ (by omega), show A.length + 1 + B.length - A.length = B.length + 1 by omega, List.set_cons_succ, List.set_append_right _ _ (Nat.le_refl _), Nat.sub_self, List.set_cons_zero]
theorem set_two2 (A B C : List α) (x y : α) : ((A ++ x :: (B ++ y :: C)).set (A.length + 1 + B.length) x).set A.length y = A ++ y :: (B ++ x :: C) := by
  rw [List.set_comm _ _ (by omega), set_two]
theorem get_one (A : List α) (x : α) (C : List α) (h : A.length < (A ++ x :: C).length) : (A ++ x :: C)[A.length]'h = x := by simp
theorem get_two (A B C : List α) (x y : α) (h : A.length + 1 + B.length < (A ++ x :: (B ++ y :: C)).length) : (A ++ x :: (B ++ y :: C))[A.length + 1 + B.length]'h = y := by
  rw [List.getElem_append_right (by omega)]
  simp only [show A.length + 1 + B.length - A.length = B.length + 1 by omega, List.getElem_cons_succ]
  exact get_one _ _ _ _
end
theorem encBk : Enc bkCells := ⟨fun _ => rfl, fun x v hv => bk_one x v hv⟩
/-- An element's cells and marks. -/
structure Cel (W : World) (g i : Nat) (x : Bk) : Prop where
  c0 : W.cell? ⟨g, i * 4, none⟩ = some (.string x.1)
  c1 : W.cell? ⟨g, i * 4 + 1, none⟩ = some (.string x.2.x.1)
  c2 : W.cell? ⟨g, i * 4 + 2, none⟩ = some (.int .i64 x.2.x.2)
  c3 : W.cell? ⟨g, i * 4 + 3, none⟩ = some (.slice x.2.a (lenF x.2.l) x.2.c)
  f0 : W.frozen? ⟨g, i * 4, none⟩ = false
  f1 : W.frozen? ⟨g, i * 4 + 1, none⟩ = false
  f2 : W.frozen? ⟨g, i * 4 + 2, none⟩ = false
  f3 : W.frozen? ⟨g, i * 4 + 3, none⟩ = false
theorem Rw.cel {W : World} {g cap : Nat} {l : List Bk} (h : Rw bkCells W g cap l) (i : Nat) (hi : i < l.length) : Cel W g i l[i] := by
  have hf := h.fits
  refine ⟨?_, ?_, ?_, ?_, (h.any (by omega)).2, (h.any (by omega)).2, (h.any (by omega)).2, (h.any (by omega)).2⟩
  · exact h.cells (j := i * 4) (by have := all_at encBk l i hi 0 (by omega); rw [Nat.add_zero] at this; rw [this]; rfl)
  · exact h.cells (by rw [all_at encBk l i hi 1 (by omega)]; rfl)
  · exact h.cells (by rw [all_at encBk l i hi 2 (by omega)]; rfl)
  · exact h.cells (by rw [all_at encBk l i hi 3 (by omega)]; rfl)
/-- All that an exchange of two elements asks. -/
structure Exch (w W : World) (g cap i j : Nat) (l : List Bk) (x y : Bk) : Prop where
  cx : Cel W g i x
  cy : Cel W g j y
  so1 : So bkCells w g cap l ((((((((W.setCell ⟨g, i * 4, none⟩ (.string y.1)).setCell ⟨g, i * 4 + 1, none⟩ (.string y.2.x.1)).setCell ⟨g, i * 4 + 2, none⟩ (.int .i64 y.2.x.2)).setCell ⟨g, i * 4 + 3, none⟩ (.slice y.2.a (lenF y.2.l) y.2.c)).setCell ⟨g, j * 4, none⟩ (.string x.1)).setCell ⟨g, j * 4 + 1, none⟩ (.string x.2.x.1)).setCell ⟨g, j * 4 + 2, none⟩ (.int .i64 x.2.x.2)).setCell ⟨g, j * 4 + 3, none⟩ (.slice x.2.a (lenF x.2.l) x.2.c)).drew
  so2 : So bkCells w g cap l ((((((((W.setCell ⟨g, j * 4, none⟩ (.string x.1)).setCell ⟨g, j * 4 + 1, none⟩ (.string x.2.x.1)).setCell ⟨g, j * 4 + 2, none⟩ (.int .i64 x.2.x.2)).setCell ⟨g, j * 4 + 3, none⟩ (.slice x.2.a (lenF x.2.l) x.2.c)).setCell ⟨g, i * 4, none⟩ (.string y.1)).setCell ⟨g, i * 4 + 1, none⟩ (.string y.2.x.1)).setCell ⟨g, i * 4 + 2, none⟩ (.int .i64 y.2.x.2)).setCell ⟨g, i * 4 + 3, none⟩ (.slice y.2.a (lenF y.2.l) y.2.c)).drew
theorem So.exch {w W : World} {g cap : Nat} {A B C : List Bk} {x y : Bk} (h : So bkCells w g cap (A ++ x :: (B ++ y :: C)) W) (i j : Nat) (hi : A.length = i) (hj : A.length + 1 + B.length = j) :
    Exch w W g cap i j (A ++ y :: (B ++ x :: C)) x y := by
  subst hi hj
  have hl : (A ++ x :: (B ++ y :: C)).length = A.length + 1 + B.length + 1 + C.length := by simp only [List.length_append, List.length_cons]; omega
  have hla : A.length < (A ++ x :: (B ++ y :: C)).length := by omega
  have hlb : A.length + 1 + B.length < (A ++ x :: (B ++ y :: C)).length := by omega
  have X0 := h.row.cel _ hla
  have Y0 := h.row.cel _ hlb
  rw [get_one] at X0
  rw [get_two] at Y0
  have hs1 := h.put encBk _ hla y
  have hs2 := hs1.put encBk (A.length + 1 + B.length) (by rw [List.length_set]; exact hlb) x
  have hr1 := h.put encBk _ hlb x
  have hr2 := hr1.put encBk A.length (by rw [List.length_set]; exact hla) y
  rw [set_two] at hs2
  rw [set_two2] at hr2
  exact ⟨X0, Y0, hs2.drew, hr2.drew⟩
end Go.Proofs.YtgidgmgpgfonnaaGreat
