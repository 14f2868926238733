/- Rows of binds to constants, read and written bind by bind; slices.Reverse of them. -/
import Derived.Test.YtplekhfnidhcoaaUnD
import Derived.Shelf.SlicesQ.Load
namespace Go.Proofs.Ytplekhfnidhcoaa
open Go.RowKit Go.Shelf Go.Deep

def ovr (cur : List Value) (o : Nat) (vs : List Value) : List Value := cur.take o ++ vs ++ cur.drop (o + vs.length)
theorem setCells_row {g : Nat} {t : TypeId} {fr : Nat × Nat} : ∀ (vs : List Value) (o : Nat) (W : World) (cur : Array Value), W.heap[g]? = some (.cells cur t fr) → o + vs.length ≤ cur.size → (W.setCells g o vs).heap[g]? = some (.cells (ovr cur.toList o vs).toArray t fr)
  | [], o, W, cur, h, _ => by
    show W.heap[g]? = _
    rw [h]
    unfold ovr
    simp
  | v :: r, o, W, cur, h, hl => by
    have h1 := block_set (k := o) h v
    have h2 := setCells_row r (o + 1) (W.setCell ⟨g, o, none⟩ v) _ h1 (by simp at hl ⊢; omega)
    rw [World.setCells]
    rw [h2]
    congr 3
    have hl' : o < cur.toList.length := by simp at hl ⊢; omega
    unfold ovr
    rw [Array.toList_setIfInBounds]
    have e1 : (cur.toList.set o v).take (o + 1) = cur.toList.take o ++ [v] := by
      rw [List.take_add_one, List.getElem?_set_self hl', List.take_set_of_le (Nat.le_refl _)]
      rfl
    have e2 : (cur.toList.set o v).drop (o + 1 + r.length) = cur.toList.drop (o + (v :: r).length) := by
      rw [List.drop_set_of_lt (by omega)]
      congr 1
      simp only [List.length_cons]
      omega
    rw [e1, e2]
    simp
theorem ovr_len {cur : List Value} {o : Nat} {vs : List Value} (h : o + vs.length ≤ cur.length) : (ovr cur o vs).length = cur.length := by
  unfold ovr
  simp only [List.length_append, List.length_take, List.length_drop]
  omega
theorem setCells_fr {g : Nat} : ∀ (vs : List Value) (o : Nat) (W : World), Fr (fun q => q = g) W (W.setCells g o vs)
  | [], _, W => Fr.refl _ W
  | v :: r, o, W => by
    rw [World.setCells]
    exact Fr.trans ⟨(Below.refl _ W).setCell (p := ⟨g, o, none⟩) (Nat.zero_le _) v, fun q _ hq => set_far hq v⟩ (setCells_fr r (o + 1) _)
/-- How an element lies in its cells. -/
structure Enc {α : Type} (enc : α → List Value) : Prop where
  len : ∀ x, (enc x).length = 4
  one : ∀ x, ∀ v ∈ enc x, v.oneCell' = true
section
variable {α : Type} {enc : α → List Value}
theorem all_len (E : Enc enc) : ∀ l : List α, (l.flatMap enc).length = l.length * 4
  | [] => rfl
  | x :: r => by
    rw [List.flatMap_cons, List.length_append, all_len E r, E.len, List.length_cons]
    omega
theorem all_drop (E : Enc enc) : ∀ (l : List α) (i : Nat), (l.flatMap enc).drop (i * 4) = (l.drop i).flatMap enc
  | l, 0 => by simp
  | [], i + 1 => by simp
  | x :: r, i + 1 => by
    rw [List.flatMap_cons, List.drop_succ_cons, ← all_drop E r i, List.drop_append, List.drop_eq_nil_of_le (by rw [E.len]; omega), List.nil_append, E.len]
    congr 1
    omega
theorem all_take (E : Enc enc) : ∀ (l : List α) (i : Nat), (l.flatMap enc).take (i * 4) = (l.take i).flatMap enc
  | l, 0 => by simp
  | [], i + 1 => by simp
  | x :: r, i + 1 => by
    rw [List.flatMap_cons, List.take_succ_cons, List.flatMap_cons, ← all_take E r i, List.take_append, List.take_of_length_le (by rw [E.len]; omega), E.len]
    congr 2
    omega
theorem all_at (E : Enc enc) (l : List α) (i : Nat) (hi : i < l.length) (k : Nat) (hk : k < 4) : (l.flatMap enc)[i * 4 + k]? = (enc l[i])[k]? := by
  rw [← List.getElem?_drop, all_drop E, List.drop_eq_getElem_cons hi, List.flatMap_cons, List.getElem?_append_left (by rw [E.len]; exact hk)]
theorem all_set (E : Enc enc) (l : List α) (i : Nat) (hi : i < l.length) (y : α) : (l.flatMap enc).take (i * 4) ++ enc y ++ (l.flatMap enc).drop (i * 4 + (enc y).length) = (l.set i y).flatMap enc := by
  rw [E.len, show i * 4 + 4 = (i + 1) * 4 by omega, all_drop E, all_take E, List.set_eq_take_append_cons_drop, if_pos hi, List.flatMap_append, List.flatMap_cons, List.append_assoc]
/-- A row of elements with room behind them. -/
structure Rw (enc : α → List Value) (W : World) (g cap : Nat) (l : List α) : Prop where
  row : ∃ cur, W.heap[g]? = some (.cells cur 44 (0, 0)) ∧ cur.size = cap * 4 ∧ cur.toList.take (l.length * 4) = l.flatMap enc
  fits : l.length ≤ cap
  small : cap ≤ maxLen
theorem Rw.cells {W : World} {g cap : Nat} {l : List α} (h : Rw enc W g cap l) {j : Nat} {v : Value} (hv : (l.flatMap enc)[j]? = some v) : W.cell? ⟨g, j, none⟩ = some v := by
  obtain ⟨cur, h1, h2, h3⟩ := h.row
  rw [← h3, List.getElem?_take] at hv
  split at hv
  · rw [Array.getElem?_toList] at hv
    exact cell_box h1 hv
  · cases hv
theorem Rw.any {W : World} {g cap : Nat} {l : List α} (h : Rw enc W g cap l) {j : Nat} (hj : j < cap * 4) : (W.cell? ⟨g, j, none⟩).isSome = true ∧ W.frozen? ⟨g, j, none⟩ = false := by
  obtain ⟨cur, h1, h2, _⟩ := h.row
  refine ⟨?_, by simp [World.frozen?, h1]⟩
  rw [cell_box h1 (Array.getElem?_eq_getElem (by omega : j < cur.size))]
  rfl
theorem Rw.load {W : World} {g cap : Nat} {l : List α} (E : Enc enc) (h : Rw enc W g cap l) (P : Program) (i : Nat) (hi : i < l.length) :
    Sem.run P (loadCellsFrom ⟨g, i * 4, none⟩ 0 4 #[]) W = .ok (enc l[i]).toArray W :=
  run_loadCellsFrom_list P _ _ _ 4 (E.len _) fun j v hv => by
    have hj : j < 4 := by
      have := (List.getElem?_eq_some_iff.1 hv).1
      rwa [E.len] at this
    rw [Addr.add_lit]
    exact h.cells (by rw [all_at E l i hi j hj]; exact hv)
theorem Rw.store {W : World} {g cap : Nat} {l : List α} (E : Enc enc) (h : Rw enc W g cap l) (P : Program) (i : Nat) (hi : i < l.length) (y : α) :
    Sem.run P (storeCells ⟨g, i * 4, none⟩ (enc y) 0) W = .ok () (W.setCells g (i * 4) (enc y)) := by
  have hf := h.fits
  have hst := run_storeCells_cells (P := P) g (i * 4) (enc y) 0 W (fun j hj => by rw [E.len] at hj; exact (h.any (j := i * 4 + 0 + j) (by omega)).1) (fun j hj => by rw [E.len] at hj; exact (h.any (j := i * 4 + 0 + j) (by omega)).2) (E.one y)
  simpa only [Nat.add_zero] using hst
theorem ovr_head {F R vs : List Value} {o n : Nat} (h : o + vs.length ≤ F.length) (hn : F.length = n) : (ovr (F ++ R) o vs).take n = F.take o ++ vs ++ F.drop (o + vs.length) := by
  unfold ovr
  rw [List.take_append_of_le_length (l₁ := F) (l₂ := R) (by omega : o ≤ F.length), List.drop_append_of_le_length h, ← List.append_assoc]
  refine List.take_left' ?_
  simp only [List.length_append, List.length_take, List.length_drop]
  omega
theorem Rw.put {W : World} {g cap : Nat} {l : List α} (E : Enc enc) (h : Rw enc W g cap l) (i : Nat) (hi : i < l.length) (y : α) : Rw enc (W.setCells g (i * 4) (enc y)) g cap (l.set i y) := by
  obtain ⟨cur, h1, h2, h3⟩ := h.row
  have hf := h.fits
  have hc : cur.toList.length = cap * 4 := by rw [Array.length_toList]; exact h2
  have hb : i * 4 + (enc y).length ≤ cur.size := by rw [E.len]; omega
  refine ⟨⟨_, setCells_row (enc y) (i * 4) W cur h1 hb, ?_, ?_⟩, by rw [List.length_set]; exact hf, h.small⟩
  · show (ovr cur.toList (i * 4) (enc y)).length = _
    rw [ovr_len (by rw [Array.length_toList]; exact hb), hc]
  · show (ovr cur.toList (i * 4) (enc y)).take _ = _
    rw [List.length_set, ← all_set E l i hi y]
    have hC : cur.toList = l.flatMap enc ++ cur.toList.drop (l.length * 4) := by rw [← h3, List.take_append_drop]
    rw [hC]
    exact ovr_head (by rw [all_len E]; rw [E.len]; omega) (all_len E l)
theorem Rw.fr {A : Nat → Prop} {W W' : World} {g cap : Nat} {l : List α} (h : Rw enc W g cap l) (hf : Fr A W W') (hA : ¬ A g) : Rw enc W' g cap l := by
  obtain ⟨cur, h1, h2⟩ := h.row
  exact ⟨⟨cur, (hf.same g (Array.getElem?_eq_some_iff.1 h1).1 hA).trans h1, h2⟩, h.fits, h.small⟩
theorem Rw.below {W W' : World} {g cap : Nat} {l : List α} (h : Rw enc W g cap l) (hb : Below W.heap.size W W') : Rw enc W' g cap l := h.fr (Fr.of_below (A := fun _ => False) hb) (fun h => h)
theorem Rw.drew {W : World} {g cap : Nat} {l : List α} (h : Rw enc W g cap l) : Rw enc W.drew g cap l := ⟨h.row, h.fits, h.small⟩
theorem Rw.lt {W : World} {g cap : Nat} {l : List α} (h : Rw enc W g cap l) : g < W.heap.size := by
  obtain ⟨cur, h1, _⟩ := h.row
  exact (Array.getElem?_eq_some_iff.1 h1).1
/-- What the sort has come to: the row, and nothing else has turned. -/
structure So (enc : α → List Value) (w : World) (g cap : Nat) (l : List α) (W : World) : Prop where
  row : Rw enc W g cap l
  fr : Fr (fun q => q = g) w W
theorem So.below {w W W' : World} {g cap : Nat} {l : List α} (h : So enc w g cap l W) (hb : Below W.heap.size W W') : So enc w g cap l W' := ⟨h.row.below hb, h.fr.trans (Fr.of_below hb)⟩
theorem So.put {w W : World} {g cap : Nat} {l : List α} (E : Enc enc) (h : So enc w g cap l W) (i : Nat) (hi : i < l.length) (y : α) : So enc w g cap (l.set i y) (W.setCells g (i * 4) (enc y)) := ⟨h.row.put E i hi y, h.fr.trans (setCells_fr _ _ _)⟩
theorem So.drew {w W : World} {g cap : Nat} {l : List α} (h : So enc w g cap l W) : So enc w g cap l W.drew := ⟨h.row.drew, h.fr.trans ⟨(Below.refl _ W).drew, fun _ _ _ => rfl⟩⟩
theorem So.trans {w W : World} {g cap : Nat} {l m : List α} {W' : World} (h : So enc w g cap l W) (k : So enc W g cap m W') : So enc w g cap m W' := ⟨k.row, h.fr.trans k.fr⟩
/-- Two places exchanged. -/
theorem set_two (A B C : List α) (x y : α) : ((A ++ x :: (B ++ y :: C)).set A.length y).set (A.length + 1 + B.length) x = A ++ y :: (B ++ x :: C) := by
  rw [List.set_append_right _ _ (Nat.le_refl _), Nat.sub_self, List.set_cons_zero, List.set_append_right _ _ (by omega), show A.length + 1 + B.length - A.length = B.length + 1 by omega, List.set_cons_succ, List.set_append_right _ _ (Nat.le_refl _), Nat.sub_self, List.set_cons_zero]
theorem set_two2 (A B C : List α) (x y : α) : ((A ++ x :: (B ++ y :: C)).set (A.length + 1 + B.length) x).set A.length y = A ++ y :: (B ++ x :: C) := by
  rw [List.set_comm _ _ (by omega), set_two]
theorem get_one (A : List α) (x : α) (C : List α) (h : A.length < (A ++ x :: C).length) : (A ++ x :: C)[A.length]'h = x := by simp
theorem get_two (A B C : List α) (x y : α) (h : A.length + 1 + B.length < (A ++ x :: (B ++ y :: C)).length) : (A ++ x :: (B ++ y :: C))[A.length + 1 + B.length]'h = y := by
  rw [List.getElem_append_right (by omega)]
  simp only [show A.length + 1 + B.length - A.length = B.length + 1 by omega, List.getElem_cons_succ]
  exact get_one _ _ _ _
end
theorem encBl : Enc blC := ⟨fun _ => rfl, fun x v hv => blAll_one [x] v (by simp [blAll, hv])⟩
/-- An element's cells and marks. -/
structure Cel (W : World) (g i : Nat) (x : Bl) : Prop where
  c0 : W.cell? ⟨g, i * 4, none⟩ = some (.string x.1)
  c1 : W.cell? ⟨g, i * 4 + 1, none⟩ = some (.string ⟨#[]⟩)
  c2 : W.cell? ⟨g, i * 4 + 2, none⟩ = some (.int .i64 x.2)
  c3 : W.cell? ⟨g, i * 4 + 3, none⟩ = some (.slice none 0 0)
  f0 : W.frozen? ⟨g, i * 4, none⟩ = false
  f1 : W.frozen? ⟨g, i * 4 + 1, none⟩ = false
  f2 : W.frozen? ⟨g, i * 4 + 2, none⟩ = false
  f3 : W.frozen? ⟨g, i * 4 + 3, none⟩ = false
theorem Rw.cel {W : World} {g cap : Nat} {l : List Bl} (h : Rw blC W g cap l) (i : Nat) (hi : i < l.length) : Cel W g i l[i] := by
  have hf := h.fits
  refine ⟨?_, ?_, ?_, ?_, (h.any (by omega)).2, (h.any (by omega)).2, (h.any (by omega)).2, (h.any (by omega)).2⟩
  · exact h.cells (j := i * 4) (by have := all_at encBl l i hi 0 (by omega); rw [Nat.add_zero] at this; rw [this]; rfl)
  · exact h.cells (by rw [all_at encBl l i hi 1 (by omega)]; rfl)
  · exact h.cells (by rw [all_at encBl l i hi 2 (by omega)]; rfl)
  · exact h.cells (by rw [all_at encBl l i hi 3 (by omega)]; rfl)
/-- All that an exchange of two elements asks. -/
structure Exch (w W : World) (g cap i j : Nat) (l : List Bl) (x y : Bl) : Prop where
  cx : Cel W g i x
  cy : Cel W g j y
  so1 : So blC w g cap l ((((((((W.setCell ⟨g, i * 4, none⟩ (.string y.1)).setCell ⟨g, i * 4 + 1, none⟩ (.string ⟨#[]⟩)).setCell ⟨g, i * 4 + 2, none⟩ (.int .i64 y.2)).setCell ⟨g, i * 4 + 3, none⟩ (.slice none 0 0)).setCell ⟨g, j * 4, none⟩ (.string x.1)).setCell ⟨g, j * 4 + 1, none⟩ (.string ⟨#[]⟩)).setCell ⟨g, j * 4 + 2, none⟩ (.int .i64 x.2)).setCell ⟨g, j * 4 + 3, none⟩ (.slice none 0 0)).drew
  so2 : So blC w g cap l ((((((((W.setCell ⟨g, j * 4, none⟩ (.string x.1)).setCell ⟨g, j * 4 + 1, none⟩ (.string ⟨#[]⟩)).setCell ⟨g, j * 4 + 2, none⟩ (.int .i64 x.2)).setCell ⟨g, j * 4 + 3, none⟩ (.slice none 0 0)).setCell ⟨g, i * 4, none⟩ (.string y.1)).setCell ⟨g, i * 4 + 1, none⟩ (.string ⟨#[]⟩)).setCell ⟨g, i * 4 + 2, none⟩ (.int .i64 y.2)).setCell ⟨g, i * 4 + 3, none⟩ (.slice none 0 0)).drew
theorem So.exch {w W : World} {g cap : Nat} {A B C : List Bl} {x y : Bl} (h : So blC w g cap (A ++ x :: (B ++ y :: C)) W) (i j : Nat) (hi : A.length = i) (hj : A.length + 1 + B.length = j) :
    Exch w W g cap i j (A ++ y :: (B ++ x :: C)) x y := by
  subst hi hj
  have hl : (A ++ x :: (B ++ y :: C)).length = A.length + 1 + B.length + 1 + C.length := by simp only [List.length_append, List.length_cons]; omega
  have hla : A.length < (A ++ x :: (B ++ y :: C)).length := by omega
  have hlb : A.length + 1 + B.length < (A ++ x :: (B ++ y :: C)).length := by omega
  have X0 := h.row.cel _ hla
  have Y0 := h.row.cel _ hlb
  rw [get_one] at X0
  rw [get_two] at Y0
  have hs1 := h.put encBl _ hla y
  have hs2 := hs1.put encBl (A.length + 1 + B.length) (by rw [List.length_set]; exact hlb) x
  have hr1 := h.put encBl _ hlb x
  have hr2 := hr1.put encBl A.length (by rw [List.length_set]; exact hla) y
  rw [set_two] at hs2
  rw [set_two2] at hr2
  exact ⟨X0, Y0, hs2.drew, hr2.drew⟩

theorem rev_split {l A M C : List Bl} {x y : Bl} {B : List Bl} (h : l = C.reverse ++ M ++ A.reverse) (hM : M = x :: (B ++ [y])) : l = (x :: C).reverse ++ B ++ (A ++ [y]).reverse := by
  rw [h, hM]; simp
theorem two_ends (M : List Bl) (h : 2 ≤ M.length) : ∃ x B y, M = x :: (B ++ [y]) := by
  match M, h with
  | x :: r, h =>
    have hr : r ≠ [] := fun e => by subst e; simp at h
    exact ⟨x, r.dropLast, r.getLast hr, by rw [List.dropLast_concat_getLast]⟩
theorem rev_short (M : List Bl) (h : M.length ≤ 1) : M.reverse = M := by
  match M, h with
  | [], _ => rfl
  | [x], _ => rfl
set_option maxRecDepth 100000 in
set_option maxHeartbeats 8000000 in
theorem reverse_any (g cap : Nat) (l : List Bl) (w : World) (hR : Rw blC w g cap l) (hn : l.length ≤ 63) :
    Calls Try.prog 30 #[.slice (some ⟨g, 0, none⟩) l.length cap] w fun e w' => (∃ v, e = .returned v) ∧ So blC w g cap l.reverse w' := by
  obtain ⟨n, hN⟩ : ∃ n, l.length = n := ⟨_, rfl⟩
  rw [hN] at hn ⊢
  have HR := hid hR; have HN := hid hN
  have hnz : (n : Int) ≤ 63 := by omega
  clear hR hN
  go_enter Try.func30, Try.ntmps30
  go_wp2_with fail
  go_loopw [2, 3] (fun iv jv wr => ∃ A M C : List Bl, iv = .int .i64 (A.length : Int) ∧ jv = .int .i64 ((n : Int) - 1 - A.length) ∧ A.length = C.length ∧ l = C.reverse ++ M ++ A.reverse ∧ So blC w g cap (A ++ (M ++ C)) wr) (fun iv _ _ => n - (intOf iv).toNat)
  case atStart => exact ⟨[], l, [], rfl, by simp, rfl, by simp, ⟨by simpa using HR.out, Fr.refl _ _⟩⟩
  case round =>
    obtain ⟨A, M, C, rfl, rfl, hac, hl, hso⟩ := hrel
    have hlen : n = C.length + M.length + A.length := by rw [← HN.out, hl]; simp only [List.length_append, List.length_reverse]
    by_cases h2 : 2 ≤ M.length
    · obtain ⟨x, B, y, hM⟩ := two_ends M h2
      have e0 : A ++ (M ++ C) = A ++ x :: (B ++ y :: C) := by rw [hM]; simp
      have e1 : A ++ y :: (B ++ x :: C) = (A ++ [y]) ++ (B ++ (x :: C)) := by simp
      have hMl : M.length = B.length + 2 := by rw [hM]; simp
      rw [e0] at hso
      obtain ⟨a, ha⟩ : ∃ a, A.length = a := ⟨_, rfl⟩
      obtain ⟨b, hb⟩ : ∃ b, n - 1 - a = b := ⟨_, rfl⟩
      have hbi : (n : Int) - 1 - a = (b : Int) := by omega
      have X0 := hso.exch a b ha (by omega)
      rw [e1] at X0
      have HL := hid (rev_split hl hM)
      have HAC := hid (show (A ++ [y]).length = (x :: C).length by simp [hac])
      have HAL := hid (show (A ++ [y]).length = a + 1 by simp [ha])
      obtain ⟨xv, xs⟩ := x
      obtain ⟨yv, ys⟩ := y
      obtain ⟨c0, c1, c2, c3, f0, f1, f2, f3⟩ := X0.cx
      obtain ⟨d0, d1, d2, d3, k0, k1, k2, k3⟩ := X0.cy
      have HS2 := hid X0.so1
      dsimp only at c0 c1 c2 c3 d0 d1 d2 d3 HS2
      have hne : a ≠ b := by omega
      have hab : a < b := by omega
      have hbn : b < n := by omega
      have HBI := hid hbi
      rw [ha, hbi]
      have HBB := hid hb
      clear hso e0 e1 X0 hl hac hlen hMl hM h2 ha hb hbi
      have mixed : Try.prog.follows .mixedOrders = true := by kernel_rfl
      go_wp2_with fail
      go_big_region_o
      all_goals go_wp2
      all_goals
        go_roundw
        case rel => exact ⟨_, _, _, by rw [HAL.out]; go_num, by rw [HAL.out]; have := HBB.out; simp; omega, HAC.out, HL.out, HS2.out⟩
        case measure => simp [intOf]; omega
    · have hA : A ++ (M ++ C) = l.reverse := by rw [hl]; simp [rev_short M (by omega)]
      rw [hA] at hso
      have HS := hid hso
      have hcond : (n : Int) - 1 - A.length ≤ (A.length : Int) := by omega
      obtain ⟨a, ha⟩ : ∃ a, A.length = a := ⟨_, rfl⟩
      rw [ha] at hcond ⊢
      have hn2 : a ≤ n := by omega
      clear hso hl hlen hac hA h2 ha
      go_wp2
      refine bodyPost_end (results_none rfl _ _ _) rfl ?_
      exact ⟨⟨_, rfl⟩, HS.out⟩
end Go.Proofs.Ytplekhfnidhcoaa
