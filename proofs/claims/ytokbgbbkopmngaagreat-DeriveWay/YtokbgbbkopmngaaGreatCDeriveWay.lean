/- For every signature and every two terms DeriveWay returns true: Way of the program answers steps from the one to the other just if their canonical forms are the same, and they lead there, by the document's steps; no condition. -/
import Derived.Shelf.SlicesQ.Load
import Derived.WalkSmall
import Derived.Maps.AppendAt
import Derived.Deep.RegionHeld3
import Derived.Test.YtokbgbbkopmngaaGreatTRChkB
import Derived.Test.YtokbgbbkopmngaaGreatDvR
import Derived.Test.YtokbgbbkopmngaaGreatKDvF
import Derived.Test.YtokbgbbkopmngaaGreatKDvLb
import Derived.Test.YtokbgbbkopmngaaGreatKDwP
import Derived.Test.YtokbgbbkopmngaaGreatKPApp
import Derived.Test.YtokbgbbkopmngaaGreatKDvNswap
/- slices.Reverse of steps. -/
namespace Go.Proofs.YtokbgbbkopmngaaGreat
open Go.RowKit Go.Shelf Go.Deep

/-- How an element lies in its cells. -/
structure EncS {α : Type} (enc : α → List Value) : Prop where
  len : ∀ x, (enc x).length = 5
  one : ∀ x, ∀ v ∈ enc x, v.oneCell' = true
section
variable {α : Type} {enc : α → List Value}
theorem sall_len (E : EncS enc) : ∀ l : List α, (l.flatMap enc).length = l.length * 5
  | [] => rfl
  | x :: r => by
    rw [List.flatMap_cons, List.length_append, sall_len E r, E.len, List.length_cons]
    omega
theorem sall_drop (E : EncS enc) : ∀ (l : List α) (i : Nat), (l.flatMap enc).drop (i * 5) = (l.drop i).flatMap enc
  | l, 0 => by simp
  | [], i + 1 => by simp
  | x :: r, i + 1 => by
    rw [List.flatMap_cons, List.drop_succ_cons, ← sall_drop E r i, List.drop_append, List.drop_eq_nil_of_le (by rw [E.len]; omega), List.nil_append, E.len]
    congr 1
    omega
theorem sall_take (E : EncS enc) : ∀ (l : List α) (i : Nat), (l.flatMap enc).take (i * 5) = (l.take i).flatMap enc
  | l, 0 => by simp
  | [], i + 1 => by simp
  | x :: r, i + 1 => by
    rw [List.flatMap_cons, List.take_succ_cons, List.flatMap_cons, ← sall_take E r i, List.take_append, List.take_of_length_le (by rw [E.len]; omega), E.len]
    congr 2
    omega
theorem sall_at (E : EncS enc) (l : List α) (i : Nat) (hi : i < l.length) (k : Nat) (hk : k < 5) : (l.flatMap enc)[i * 5 + k]? = (enc l[i])[k]? := by
  rw [← List.getElem?_drop, sall_drop E, List.drop_eq_getElem_cons hi, List.flatMap_cons, List.getElem?_append_left (by rw [E.len]; exact hk)]
theorem sall_set (E : EncS enc) (l : List α) (i : Nat) (hi : i < l.length) (y : α) : (l.flatMap enc).take (i * 5) ++ enc y ++ (l.flatMap enc).drop (i * 5 + (enc y).length) = (l.set i y).flatMap enc := by
  rw [E.len, show i * 5 + 5 = (i + 1) * 5 by omega, sall_drop E, sall_take E, List.set_eq_take_append_cons_drop, if_pos hi, List.flatMap_append, List.flatMap_cons, List.append_assoc]
/-- A row of elements with room behind them. -/
structure RwS (enc : α → List Value) (W : World) (g cap : Nat) (l : List α) : Prop where
  row : ∃ cur, W.heap[g]? = some (.cells cur 47 (0, 0)) ∧ cur.size = cap * 5 ∧ cur.toList.take (l.length * 5) = l.flatMap enc
  fits : l.length ≤ cap
  small : cap ≤ maxLen
theorem RwS.cells {W : World} {g cap : Nat} {l : List α} (h : RwS enc W g cap l) {j : Nat} {v : Value} (hv : (l.flatMap enc)[j]? = some v) : W.cell? ⟨g, j, none⟩ = some v := by
  obtain ⟨cur, h1, h2, h3⟩ := h.row
  rw [← h3, List.getElem?_take] at hv
  split at hv
  · rw [Array.getElem?_toList] at hv
    exact cell_box h1 hv
  · cases hv
theorem RwS.any {W : World} {g cap : Nat} {l : List α} (h : RwS enc W g cap l) {j : Nat} (hj : j < cap * 5) : (W.cell? ⟨g, j, none⟩).isSome = true ∧ W.frozen? ⟨g, j, none⟩ = false := by
  obtain ⟨cur, h1, h2, _⟩ := h.row
  refine ⟨?_, by simp [World.frozen?, h1]⟩
  rw [cell_box h1 (Array.getElem?_eq_getElem (by omega : j < cur.size))]
  rfl
theorem RwS.store {W : World} {g cap : Nat} {l : List α} (E : EncS enc) (h : RwS enc W g cap l) (P : Program) (i : Nat) (hi : i < l.length) (y : α) :
    Sem.run P (storeCells ⟨g, i * 5, none⟩ (enc y) 0) W = .ok () (W.setCells g (i * 5) (enc y)) := by
  have hf := h.fits
  have hst := run_storeCells_cells (P := P) g (i * 5) (enc y) 0 W (fun j hj => by rw [E.len] at hj; exact (h.any (j := i * 5 + 0 + j) (by omega)).1) (fun j hj => by rw [E.len] at hj; exact (h.any (j := i * 5 + 0 + j) (by omega)).2) (E.one y)
  simpa only [Nat.add_zero] using hst
theorem sovr_head {F R vs : List Value} {o n : Nat} (h : o + vs.length ≤ F.length) (hn : F.length = n) : (ovr (F ++ R) o vs).take n = F.take o ++ vs ++ F.drop (o + vs.length) := by
  unfold ovr
  rw [List.take_append_of_le_length (l₁ := F) (l₂ := R) (by omega : o ≤ F.length), List.drop_append_of_le_length h, ← List.append_assoc]
  refine List.take_left' ?_
  simp only [List.length_append, List.length_take, List.length_drop]
  omega
theorem RwS.put {W : World} {g cap : Nat} {l : List α} (E : EncS enc) (h : RwS enc W g cap l) (i : Nat) (hi : i < l.length) (y : α) : RwS enc (W.setCells g (i * 5) (enc y)) g cap (l.set i y) := by
  obtain ⟨cur, h1, h2, h3⟩ := h.row
  have hf := h.fits
  have hc : cur.toList.length = cap * 5 := by rw [Array.length_toList]; exact h2
  have hb : i * 5 + (enc y).length ≤ cur.size := by rw [E.len]; omega
  refine ⟨⟨_, setCells_row (enc y) (i * 5) W cur h1 hb, ?_, ?_⟩, by rw [List.length_set]; exact hf, h.small⟩
  · show (ovr cur.toList (i * 5) (enc y)).length = _
    rw [ovr_len (by rw [Array.length_toList]; exact hb), hc]
  · show (ovr cur.toList (i * 5) (enc y)).take _ = _
    rw [List.length_set, ← sall_set E l i hi y]
    have hC : cur.toList = l.flatMap enc ++ cur.toList.drop (l.length * 5) := by rw [← h3, List.take_append_drop]
    rw [hC]
    exact sovr_head (by rw [sall_len E]; rw [E.len]; omega) (sall_len E l)
theorem RwS.fr {A : Nat → Prop} {W W' : World} {g cap : Nat} {l : List α} (h : RwS enc W g cap l) (hf : Fr A W W') (hA : ¬ A g) : RwS enc W' g cap l := by
  obtain ⟨cur, h1, h2⟩ := h.row
  exact ⟨⟨cur, (hf.same g (Array.getElem?_eq_some_iff.1 h1).1 hA).trans h1, h2⟩, h.fits, h.small⟩
theorem RwS.below {W W' : World} {g cap : Nat} {l : List α} (h : RwS enc W g cap l) (hb : Below W.heap.size W W') : RwS enc W' g cap l := h.fr (Fr.of_below (A := fun _ => False) hb) (fun h => h)
theorem RwS.drew {W : World} {g cap : Nat} {l : List α} (h : RwS enc W g cap l) : RwS enc W.drew g cap l := ⟨h.row, h.fits, h.small⟩
theorem RwS.lt {W : World} {g cap : Nat} {l : List α} (h : RwS enc W g cap l) : g < W.heap.size := by
  obtain ⟨cur, h1, _⟩ := h.row
  exact (Array.getElem?_eq_some_iff.1 h1).1
/-- What the sort has come to: the row, and nothing else has turned. -/
structure SoS (enc : α → List Value) (w : World) (g cap : Nat) (l : List α) (W : World) : Prop where
  row : RwS enc W g cap l
  fr : Fr (fun q => q = g) w W
theorem SoS.below {w W W' : World} {g cap : Nat} {l : List α} (h : SoS enc w g cap l W) (hb : Below W.heap.size W W') : SoS enc w g cap l W' := ⟨h.row.below hb, h.fr.trans (Fr.of_below hb)⟩
theorem SoS.put {w W : World} {g cap : Nat} {l : List α} (E : EncS enc) (h : SoS enc w g cap l W) (i : Nat) (hi : i < l.length) (y : α) : SoS enc w g cap (l.set i y) (W.setCells g (i * 5) (enc y)) := ⟨h.row.put E i hi y, h.fr.trans (setCells_tc _ _ _)⟩
theorem SoS.drew {w W : World} {g cap : Nat} {l : List α} (h : SoS enc w g cap l W) : SoS enc w g cap l W.drew := ⟨h.row.drew, h.fr.trans ⟨(Below.refl _ W).drew, fun _ _ _ => rfl⟩⟩
theorem SoS.trans {w W : World} {g cap : Nat} {l m : List α} {W' : World} (h : SoS enc w g cap l W) (k : SoS enc W g cap m W') : SoS enc w g cap m W' := ⟨k.row, h.fr.trans k.fr⟩
/-- Two places exchanged. -/
theorem sset_two (A B C : List α) (x y : α) : ((A ++ x :: (B ++ y :: C)).set A.length y).set (A.length + 1 + B.length) x = A ++ y :: (B ++ x :: C) := by
  rw [List.set_append_right _ _ (Nat.le_refl _), Nat.sub_self, List.set_cons_zero, List.set_append_right _ _ (by omega), show A.length + 1 + B.length - A.length = B.length + 1 by omega, List.set_cons_succ, List.set_append_right _ _ (Nat.le_refl _), Nat.sub_self, List.set_cons_zero]
theorem sset_two2 (A B C : List α) (x y : α) : ((A ++ x :: (B ++ y :: C)).set (A.length + 1 + B.length) x).set A.length y = A ++ y :: (B ++ x :: C) := by
  rw [List.set_comm _ _ (by omega), sset_two]
theorem sget_one (A : List α) (x : α) (C : List α) (h : A.length < (A ++ x :: C).length) : (A ++ x :: C)[A.length]'h = x := by simp
theorem sget_two (A B C : List α) (x y : α) (h : A.length + 1 + B.length < (A ++ x :: (B ++ y :: C)).length) : (A ++ x :: (B ++ y :: C))[A.length + 1 + B.length]'h = y := by
  rw [List.getElem_append_right (by omega)]
  simp only [show A.length + 1 + B.length - A.length = B.length + 1 by omega, List.getElem_cons_succ]
  exact sget_one _ _ _ _
end
theorem encWb : EncS wbC := ⟨fun _ => rfl, fun x v hv => by
  simp only [wbC, List.mem_cons, List.not_mem_nil, or_false] at hv
  rcases hv with rfl | rfl | rfl | rfl | rfl <;> rfl⟩
/-- An element's cells and marks. -/
structure CelS (W : World) (g i : Nat) (x : Wv) : Prop where
  c0 : W.cell? ⟨g, i * 5, none⟩ = some (.int .i64 x.b.back.kind)
  c1 : W.cell? ⟨g, i * 5 + 1, none⟩ = some (.slice x.a x.b.path.length x.c)
  c2 : W.cell? ⟨g, i * 5 + 2, none⟩ = some (.int .i64 x.b.back.at_)
  c3 : W.cell? ⟨g, i * 5 + 3, none⟩ = some (.int .i64 x.b.back.many)
  c4 : W.cell? ⟨g, i * 5 + 4, none⟩ = some (.int .i64 x.b.back.sym)
  f0 : W.frozen? ⟨g, i * 5, none⟩ = false
  f1 : W.frozen? ⟨g, i * 5 + 1, none⟩ = false
  f2 : W.frozen? ⟨g, i * 5 + 2, none⟩ = false
  f3 : W.frozen? ⟨g, i * 5 + 3, none⟩ = false
  f4 : W.frozen? ⟨g, i * 5 + 4, none⟩ = false
theorem RwS.cel {W : World} {g cap : Nat} {l : List Wv} (h : RwS wbC W g cap l) (i : Nat) (hi : i < l.length) : CelS W g i l[i] := by
  have hf := h.fits
  refine ⟨?_, ?_, ?_, ?_, ?_, (h.any (by omega)).2, (h.any (by omega)).2, (h.any (by omega)).2, (h.any (by omega)).2, (h.any (by omega)).2⟩
  · exact h.cells (j := i * 5) (by have := sall_at encWb l i hi 0 (by omega); rw [Nat.add_zero] at this; rw [this]; rfl)
  · exact h.cells (by rw [sall_at encWb l i hi 1 (by omega)]; rfl)
  · exact h.cells (by rw [sall_at encWb l i hi 2 (by omega)]; rfl)
  · exact h.cells (by rw [sall_at encWb l i hi 3 (by omega)]; rfl)
  · exact h.cells (by rw [sall_at encWb l i hi 4 (by omega)]; rfl)
/-- All that an exchange of two elements asks. -/
structure ExchS (w W : World) (g cap i j : Nat) (l : List Wv) (x y : Wv) : Prop where
  cx : CelS W g i x
  cy : CelS W g j y
  so1 : SoS wbC w g cap l (((((((((((W.setCell ⟨g, i * 5, none⟩ (.int .i64 y.b.back.kind)).setCell ⟨g, i * 5 + 1, none⟩ (.slice y.a y.b.path.length y.c)).setCell ⟨g, i * 5 + 2, none⟩ (.int .i64 y.b.back.at_)).setCell ⟨g, i * 5 + 3, none⟩ (.int .i64 y.b.back.many)).setCell ⟨g, i * 5 + 4, none⟩ (.int .i64 y.b.back.sym)).setCell ⟨g, j * 5, none⟩ (.int .i64 x.b.back.kind)).setCell ⟨g, j * 5 + 1, none⟩ (.slice x.a x.b.path.length x.c)).setCell ⟨g, j * 5 + 2, none⟩ (.int .i64 x.b.back.at_)).setCell ⟨g, j * 5 + 3, none⟩ (.int .i64 x.b.back.many)).setCell ⟨g, j * 5 + 4, none⟩ (.int .i64 x.b.back.sym)).drew)
  so2 : SoS wbC w g cap l (((((((((((W.setCell ⟨g, j * 5, none⟩ (.int .i64 x.b.back.kind)).setCell ⟨g, j * 5 + 1, none⟩ (.slice x.a x.b.path.length x.c)).setCell ⟨g, j * 5 + 2, none⟩ (.int .i64 x.b.back.at_)).setCell ⟨g, j * 5 + 3, none⟩ (.int .i64 x.b.back.many)).setCell ⟨g, j * 5 + 4, none⟩ (.int .i64 x.b.back.sym)).setCell ⟨g, i * 5, none⟩ (.int .i64 y.b.back.kind)).setCell ⟨g, i * 5 + 1, none⟩ (.slice y.a y.b.path.length y.c)).setCell ⟨g, i * 5 + 2, none⟩ (.int .i64 y.b.back.at_)).setCell ⟨g, i * 5 + 3, none⟩ (.int .i64 y.b.back.many)).setCell ⟨g, i * 5 + 4, none⟩ (.int .i64 y.b.back.sym)).drew)
theorem SoS.exch {w W : World} {g cap : Nat} {A B C : List Wv} {x y : Wv} (h : SoS wbC w g cap (A ++ x :: (B ++ y :: C)) W) (i j : Nat) (hi : A.length = i) (hj : A.length + 1 + B.length = j) :
    ExchS w W g cap i j (A ++ y :: (B ++ x :: C)) x y := by
  subst hi hj
  have hl : (A ++ x :: (B ++ y :: C)).length = A.length + 1 + B.length + 1 + C.length := by simp only [List.length_append, List.length_cons]; omega
  have hla : A.length < (A ++ x :: (B ++ y :: C)).length := by omega
  have hlb : A.length + 1 + B.length < (A ++ x :: (B ++ y :: C)).length := by omega
  have X0 := h.row.cel _ hla
  have Y0 := h.row.cel _ hlb
  rw [sget_one] at X0
  rw [sget_two] at Y0
  have hs1 := h.put encWb _ hla y
  have hs2 := hs1.put encWb (A.length + 1 + B.length) (by rw [List.length_set]; exact hlb) x
  have hr1 := h.put encWb _ hlb x
  have hr2 := hr1.put encWb A.length (by rw [List.length_set]; exact hla) y
  rw [sset_two] at hs2
  rw [sset_two2] at hr2
  exact ⟨X0, Y0, hs2.drew, hr2.drew⟩

theorem srev_split {l A M C : List Wv} {x y : Wv} {B : List Wv} (h : l = C.reverse ++ M ++ A.reverse) (hM : M = x :: (B ++ [y])) : l = (x :: C).reverse ++ B ++ (A ++ [y]).reverse := by
  rw [h, hM]; simp
theorem stwo_ends (M : List Wv) (h : 2 ≤ M.length) : ∃ x B y, M = x :: (B ++ [y]) := by
  match M, h with
  | x :: r, h =>
    have hr : r ≠ [] := fun e => by subst e; simp at h
    exact ⟨x, r.dropLast, r.getLast hr, by rw [List.dropLast_concat_getLast]⟩
theorem srev_short (M : List Wv) (h : M.length ≤ 1) : M.reverse = M := by
  match M, h with
  | [], _ => rfl
  | [x], _ => rfl
set_option maxRecDepth 100000 in
set_option maxHeartbeats 8000000 in
theorem reverse_steps (g cap : Nat) (l : List Wv) (w : World) (hR : RwS wbC w g cap l) (hn : l.length ≤ 1048576) :
    Calls Tryz.prog 18 #[.slice (some ⟨g, 0, none⟩) l.length cap] w fun e w' => (∃ v, e = .returned v) ∧ SoS wbC w g cap l.reverse w' := by
  obtain ⟨n, hN⟩ : ∃ n, l.length = n := ⟨_, rfl⟩
  rw [hN] at hn ⊢
  have HR := hid hR; have HN := hid hN
  have hnz : (n : Int) ≤ 1048576 := by omega
  clear hR hN
  go_enter Tryz.func18, Tryz.ntmps18
  go_wp2_with fail
  go_loopw [2, 3] (fun iv jv wr => ∃ A M C : List Wv, iv = .int .i64 (A.length : Int) ∧ jv = .int .i64 ((n : Int) - 1 - A.length) ∧ A.length = C.length ∧ l = C.reverse ++ M ++ A.reverse ∧ SoS wbC w g cap (A ++ (M ++ C)) wr) (fun iv _ _ => n - (intOf iv).toNat)
  case atStart => exact ⟨[], l, [], rfl, by simp, rfl, by simp, ⟨by simpa using HR.out, Fr.refl _ _⟩⟩
  case round =>
    obtain ⟨A, M, C, rfl, rfl, hac, hl, hso⟩ := hrel
    have hlen : n = C.length + M.length + A.length := by rw [← HN.out, hl]; simp only [List.length_append, List.length_reverse]
    by_cases h2 : 2 ≤ M.length
    · obtain ⟨x, B, y, hM⟩ := stwo_ends M h2
      have e0 : A ++ (M ++ C) = A ++ x :: (B ++ y :: C) := by rw [hM]; simp
      have e1 : A ++ y :: (B ++ x :: C) = (A ++ [y]) ++ (B ++ (x :: C)) := by simp
      have hMl : M.length = B.length + 2 := by rw [hM]; simp
      rw [e0] at hso
      obtain ⟨a, ha⟩ : ∃ a, A.length = a := ⟨_, rfl⟩
      obtain ⟨b, hb⟩ : ∃ b, n - 1 - a = b := ⟨_, rfl⟩
      have hbi : (n : Int) - 1 - a = (b : Int) := by omega
      have X0 := hso.exch a b ha (by omega)
      rw [e1] at X0
      have HL := hid (srev_split hl hM)
      have HAC := hid (show (A ++ [y]).length = (x :: C).length by simp [hac])
      have HAL := hid (show (A ++ [y]).length = a + 1 by simp [ha])
      obtain ⟨c0, c1, c2, c3, c4, f0, f1, f2, f3, f4⟩ := X0.cx
      obtain ⟨d0, d1, d2, d3, d4, k0, k1, k2, k3, k4⟩ := X0.cy
      have HS2 := hid X0.so1
      have hne : a ≠ b := by omega
      have hab : a < b := by omega
      have hbn : b < n := by omega
      have HBI := hid hbi
      rw [ha, hbi]
      have HBB := hid hb
      clear hso e0 e1 X0 hl hac hlen hMl hM h2 ha hb hbi
      have mixed : Tryz.prog.follows .mixedOrders = true := by kernel_rfl
      go_wp2_with fail
      go_big_region_o
      all_goals go_wp2
      all_goals
        go_roundw
        case rel => exact ⟨_, _, _, by rw [HAL.out]; go_num, by rw [HAL.out]; have := HBB.out; simp; omega, HAC.out, HL.out, HS2.out⟩
        case measure => simp [intOf]; omega
    · have hA : A ++ (M ++ C) = l.reverse := by rw [hl]; simp [srev_short M (by omega)]
      rw [hA] at hso
      have HS := hid hso
      have hcond : (n : Int) - 1 - A.length ≤ (A.length : Int) := by omega
      obtain ⟨a, ha⟩ : ∃ a, A.length = a := ⟨_, rfl⟩
      rw [ha] at hcond ⊢
      have hn2 : a ≤ n := by omega
      clear hso hl hlen hac hA h2 ha
      go_wp2
      refine bodyPost_end (results_none rfl _ _ _) rfl ?_
      exact ⟨⟨_, rfl⟩, HS.out⟩
end Go.Proofs.YtokbgbbkopmngaaGreat
/- The walk's strip. -/
namespace Go.Proofs.YtokbgbbkopmngaaGreat
open Go.RowKit Go.Deep

def pfx (ps : List Int) (b : Bs) : Bs := ⟨ps ++ b.path, b.sp, b.back⟩
theorem pfx_ls (ls l : List Bs) (ps : List Int) (p q : Sp) : (ls ++ l.map (pfx ps)) ++ [(⟨ps, p, q⟩ : Bs)] = ls ++ (l ++ [(⟨[], p, q⟩ : Bs)]).map (pfx ps) := by
  rw [List.map_append, List.append_assoc]
  simp [pfx]
theorem least_n (p : Nat → Prop) : ∀ n, p n → ∃ m, p m ∧ ∀ k, p k → m ≤ k := by
  classical
  intro n
  induction n using Nat.strongRecOn with
  | _ n ih =>
    intro hn
    by_cases h : ∃ k, k < n ∧ p k
    · obtain ⟨k, hk, hp⟩ := h
      exact ih k hk hp
    · exact ⟨n, hn, fun k hk => Decidable.byContradiction fun hlt => h ⟨k, by omega, hk⟩⟩
theorem count_of2 (I : Nat → Value → Value → World → Prop) : ∃ mu : Value → Value → World → Nat, ∀ a b W f, I f a b W → I (mu a b W) a b W ∧ mu a b W ≤ f := by
  classical
  refine ⟨fun a b W => if h : ∃ f, I f a b W then Classical.choose (least_n (fun f => I f a b W) _ (Classical.choose_spec h)) else 0, fun a b W f hf => ?_⟩
  have h : ∃ f, I f a b W := ⟨f, hf⟩
  have hs := Classical.choose_spec (least_n (fun f => I f a b W) _ (Classical.choose_spec h))
  dsimp only
  rw [dif_pos h]
  exact ⟨hs.1, hs.2 f hf⟩
theorem Res.below {W W1 W2 : World} {X X1 : Bl} {N0 b o : Nat} {A A1 : Bl} {cur cur1 : Array Value} {B : Nat} {S : Option Addr} {n cap : Nat} {ps : List Int} {x1 : ByteArray × Int} {l1 : List Tn} {ls1 : List Bs} {a1 : Option Addr} {c1 : Nat} {ks1 : List Kv} {vs1 : List Wv} {pv1 sv1 bv1 : Value}
    (h : Res W X N0 b o A cur B S n cap ps x1 l1 ls1 A1 X1 a1 c1 ks1 cur1 vs1 pv1 sv1 bv1 W1) (hb : Below W1.heap.size W1 W2) : Res W X N0 b o A cur B S n cap ps x1 l1 ls1 A1 X1 a1 c1 ks1 cur1 vs1 pv1 sv1 bv1 W2 := by
  have := h.trans (Res.self h.nod h.wk hb)
  rw [h.list] at this
  exact this
/-- One of a node's arguments, in memory. -/
theorem nod_kid {W : World} {X : Bl} {N0 b o : Nat} {A : Bl} {x : ByteArray × Int} {l : List Tn} {a : Option Addr} {c : Nat} {ks : List Kv} {cur : Array Value} (h : Nod W X N0 b o A x l a c ks cur) {i : Nat} {y : Tn} (hy : l[i]? = some y) :
    ∃ g kv, a = some ⟨g, 0, none⟩ ∧ ks[i]? = some kv ∧ kv.tn = y ∧ W.cell? ⟨g, i * 3 + 2, none⟩ = some (.slice kv.a (lenF y.2) kv.c) ∧ i < c ∧ c ≤ maxLen ∧ ks.length = l.length := by
  have hk := h.kids
  rw [← hk, List.getElem?_map] at hy
  cases hkv : ks[i]? with
  | none => rw [hkv] at hy; cases hy
  | some kv =>
    rw [hkv] at hy
    have hy : some kv.tn = some y := hy
    cases hy
    have hi : i < ks.length := (List.getElem?_eq_some_iff.1 hkv).1
    rcases h.pl.row.row with ⟨e, _⟩ | ⟨g, e, _, hR, _⟩
    · rw [e] at hi; simp at hi
    · exact ⟨g, kv, e, rfl, rfl, hR.cells (kv_cells hkv).2.2, Nat.lt_of_lt_of_le hi hR.fits, hR.small, by rw [← hk, List.length_map]⟩
/-- What strip leaves. -/
def StripEnd (S' : Sg) (ar : Int → Nat) (x : ByteArray × Int) (H M T : List Tn) (W : World) (X : Bl) (N0 b o : Nat) (A : Bl) (cur : Array Value) (B : Nat) (S : Option Addr) (n cap : Nat) (ps : List Int) (ls : List Bs) (e : Ending) (W' : World) : Prop :=
  (∃ D l1, e = .returned (.tuple #[.int .i64 ((H.length + D.length : Nat) : Int), .bool true]) ∧ SpSt S' ar x H M T [] D l1 ∧ ResE W X N0 b o A cur B S n cap ps x (H ++ (D ++ T)) (ls ++ l1.map (pfx ps)) W') ∨
  (∃ z l1, e = .returned (.tuple #[.int .i64 0, .bool false]) ∧ SpNo S' x H M T z l1 ∧ ResE W X N0 b o A cur B S n cap ps z.1 (kidsL z.2) (ls ++ l1.map (pfx ps)) W')
/-- strip's loop. -/
def StpSt (S' : Sg) (ar : Int → Nat) (x : ByteArray × Int) (H M T : List Tn) (W : World) (X : Bl) (N0 b o : Nat) (A : Bl) (cur : Array Value) (B : Nat) (S : Option Addr) (n cap : Nat) (ps : List Int) (ls : List Bs) (f : Nat) (tv at_ : Value) (wr : World) : Prop :=
  ∃ (U D : List Tn) (l1 : List Bs), f = sizes U ∧ at_ = .int .i64 (((H ++ U).length : Int) - 1) ∧ tv = .int .i64 (((H ++ U).length : Int) + (D.length : Int)) ∧ SpSt S' ar x H M T U D l1 ∧ ResE W X N0 b o A cur B S n cap ps x (H ++ (U ++ (D ++ T))) (ls ++ l1.map (pfx ps)) wr
theorem step_none {S : Sg} {x : ByteArray × Int} (U R : List Tn) {y : Tn} (h : ¬ (gaX S x = true ∧ headed x.2 y = true)) : stepN S (nd x (U ++ y :: R)) (flatP U.length) = none := by
  cases hh : headed x.2 y with
  | false => exact flat_no U R hh
  | true =>
    cases hg : gaX S x with
    | false => exact step_free hg _ (by show ¬ (1 : Int) = 5; decide)
    | true => exact absurd ⟨hg, hh⟩ h
theorem drop_none {S : Sg} {x : ByteArray × Int} (U R : List Tn) {y : Tn} (h : ¬ (gaX S x = true ∧ isUn S x.2 y = true)) : stepN S (nd x (U ++ y :: R)) (dropP U.length) = none := by
  cases hh : isUn S x.2 y with
  | false => exact drop_no U R hh
  | true =>
    cases hg : gaX S x with
    | false => exact step_free hg _ (by show ¬ (4 : Int) = 5; decide)
    | true => exact absurd ⟨hg, hh⟩ h
theorem snoc_cases (l : List Tn) : l = [] ∨ ∃ r y, l = r ++ [y] := by
  by_cases h : l = []
  · exact .inl h
  · exact .inr ⟨l.dropLast, l.getLast h, (List.dropLast_concat_getLast h).symm⟩
theorem nodes_nd (x : ByteArray × Int) (l : List Tn) : nodesF (nd x l).2 = sizes l := by unfold nd; exact nodes_mk l

set_option maxRecDepth 100000 in
set_option maxHeartbeats 8000000 in
theorem strip_any (w0 : World) (S : Option Addr) (n cap B b o : Nat) (L : List Sym) (ar : Int → Nat) (X A : Bl) (x : ByteArray × Int) (H M T : List Tn) (a : Option Addr) (c : Nat) (ks : List Kv) (cur : Array Value) (ps : List Int) (vs : List Wv) (pv sv bv : Value) (W : World)
    (hS : SigAt w0 S n L) (hb : Below w0.heap.size w0 W) (hN : Nod W X w0.heap.size b o A x (H ++ (M ++ T)) a c ks cur) (hK : Wk W X w0.heap.size B S n cap ps vs pv sv bv) (hn : sizes (H ++ (M ++ T)) ≤ 1000000) (hps : ps.length ≤ 1000000) (hvs : vs.length + sizes M ≤ 1000000) :
    Calls Tryz.prog 44 #[.pointer (some ⟨B, 0, none⟩), .pointer (some ⟨b, o, none⟩), .int .i64 (H.length : Int), .int .i64 ((H.length : Int) + (M.length : Int))] W (StripEnd (sgOf L) ar x H M T W X w0.heap.size b o A cur B S n cap ps (vs.map Wv.b)) := by
  obtain ⟨ls, hls⟩ : ∃ ls, vs.map Wv.b = ls := ⟨_, rfl⟩
  rw [hls]
  have hlsl : ls.length = vs.length := by rw [← hls, List.length_map]
  have hst0 : StpSt (sgOf L) ar x H M T W X w0.heap.size b o A cur B S n cap ps ls (sizes M) (.int .i64 (((H ++ M).length : Int) + (([] : List Tn).length : Int))) (.int .i64 (((H ++ M).length : Int) - 1)) W := by
    refine ⟨M, [], [], rfl, rfl, rfl, SpSt.start, A, X, a, c, ks, cur, vs, pv, sv, bv, ?_⟩
    have := Res.self hN hK (Below.refl _ W)
    rw [hls] at this
    simpa using this
  obtain ⟨mu, hmu⟩ := count_of2 (StpSt (sgOf L) ar x H M T W X w0.heap.size b o A cur B S n cap ps ls)
  have HML : Hid (M.length ≤ 1000000 ∧ H.length ≤ 1000000) := hid (by
    have h1 := len_sizes (H ++ (M ++ T))
    simp only [List.length_append] at h1
    exact ⟨by omega, by omega⟩)
  have HST0 := hid hst0; have HMU := hid hmu; have HS := hid hS; have HB := hid hb; have HNo := hid hN; have HKo := hid hK; have HN := hid hn; have HPS := hid hps
  have HVS : Hid (ls.length + sizes M ≤ 1000000) := hid (by omega)
  have e1 : ((H ++ M).length : Int) = (H.length : Int) + (M.length : Int) := by rw [List.length_append]; omega
  rw [e1] at HST0
  have e2 : (H.length : Int) + (M.length : Int) + (([] : List Tn).length : Int) = (H.length : Int) + (M.length : Int) := by simp
  rw [e2] at HST0
  have hMl := HML.out
  obtain ⟨hl, hhl⟩ : ∃ hl : Int, (H.length : Int) = hl := ⟨_, rfl⟩
  obtain ⟨ml, hml⟩ : ∃ ml : Int, (M.length : Int) = ml := ⟨_, rfl⟩
  rw [hhl, hml] at HST0 ⊢
  have b1 : 0 ≤ hl ∧ hl ≤ 1000000 := by omega
  have b2 : 0 ≤ ml ∧ ml ≤ 1000000 := by omega
  have HHL := hid hhl
  clear hst0 hmu hS hb hN hK hn hps hvs hls hlsl e1 e2 hMl hhl hml
  go_enter Tryz.func44, Tryz.ntmps44
  go_wp2_with fail
  go_loopw [3, 10, 11, 12] (fun tv at_ _ _ wr => ∃ f, StpSt (sgOf L) ar x H M T W X w0.heap.size b o A cur B S n cap ps ls f tv at_ wr) (fun tv at_ _ _ wr => mu tv at_ wr)
  case atStart => exact ⟨_, HST0.out⟩
  case round =>
    obtain ⟨f, hrs⟩ := hrel
    have hst := (HMU.out _ _ _ _ hrs).1
    clear hrs HST0
    obtain ⟨U, D, l1, hf, hat, hto, hsp, A', X', a', c', ks', cur', vs', pv', sv', bv', hres⟩ := hst
    have hcost := hsp.cost
    have hvl : vs'.length = ls.length + l1.length := by
      have := congrArg List.length hres.list
      simpa using this
    have hDl := len_sizes D
    have hVS := HVS.out
    have hHM := HML.out
    rcases snoc_cases U with rfl | ⟨U1, y, rfl⟩
    · obtain ⟨dl, hdl⟩ : ∃ dl : Int, (D.length : Int) = dl := ⟨_, rfl⟩
      have e1 : ((H ++ ([] : List Tn)).length : Int) = hl := by rw [List.append_nil]; exact HHL.out
      rw [e1] at hat hto
      rw [hdl] at hto
      have b3 : 0 ≤ dl ∧ dl ≤ 1000000 := by omega
      obtain ⟨ai, hai⟩ : ∃ ai : Int, hl - 1 = ai := ⟨_, rfl⟩
      rw [hai] at hat
      have hc : ¬ (hl ≤ ai) := by omega
      subst hat hto
      have HSP := hid hsp; have HRES := hid hres; have HDL := hid hdl
      clear hf hsp hres hdl hcost hvl hDl hVS hHM e1 hai
      go_wp2
      refine bodyPost_ret (results_tmp2 rfl _ _ _) rfl ?_
      refine .inl ⟨D, l1, ?_, HSP.out, A', X', a', c', ks', cur', vs', pv', sv', bv', HRES.out⟩
      rw [show ((H.length + D.length : Nat) : Int) = hl + dl by have := HHL.out; have := HDL.out; omega]
      rfl
    · obtain ⟨i, hi⟩ : ∃ i : Nat, (H ++ U1).length = i := ⟨_, rfl⟩
      obtain ⟨ti, hti⟩ : ∃ ti : Int, (i : Int) + 1 + (D.length : Int) = ti := ⟨_, rfl⟩
      have e0 : (H ++ (U1 ++ [y])).length = i + 1 := by rw [← List.append_assoc, List.length_append, hi]; rfl
      rw [e0] at hat hto
      rw [show ((i + 1 : Nat) : Int) - 1 = (i : Int) by omega] at hat
      rw [show ((i + 1 : Nat) : Int) + (D.length : Int) = ti by omega] at hto
      rw [sizes_append, sizes_cons, sizes_nil] at hcost hf
      have hU1 := len_sizes U1
      have hHl : H.length ≤ i := by rw [← hi, List.length_append]; omega
      have hil : i ≤ 2000000 := by rw [← hi, List.length_append]; omega
      have b3 : 0 ≤ ti ∧ ti ≤ 4000000 := by omega
      have hc : hl ≤ (i : Int) := by have := HHL.out; omega
      have hle : H ++ ((U1 ++ [y]) ++ (D ++ T)) = (H ++ U1) ++ y :: (D ++ T) := mid_eq H U1 D T y
      rw [hle] at hres
      have hget : ((H ++ U1) ++ y :: (D ++ T))[i]? = some y := by rw [← hi]; exact at_get _ _ _
      obtain ⟨g, kv, rfl, hkv, hky, hcell, hic, hcm, hksl⟩ := nod_kid hres.nod hget
      have n2 := hres.nod.pl.nd.list
      obtain ⟨N, hN⟩ : ∃ N : Nat, ks'.length = N := ⟨_, rfl⟩
      rw [hN] at n2
      have hNl : N = (H ++ U1).length + 1 + (D ++ T).length := by rw [← hN, hksl, List.length_append, List.length_cons]; omega
      have hiN : (i : Int) < (N : Int) := by omega
      have hi0 : (0 : Int) ≤ (i : Int) := by omega
      obtain ⟨inn, hinn⟩ : ∃ inn : Nat, lenF y.2 = inn := ⟨_, rfl⟩
      rw [hinn] at hcell
      have hinb : inn ≤ 1000000 := by
        have h1 := sizes_kids y
        have h2 := len_sizes (kidsL y.2)
        rw [kids_len] at h2
        omega
      have hNb : N ≤ 3000000 := by
        have h1 := len_sizes (H ++ (M ++ T))
        have h2 := HN.out
        simp only [List.length_append] at h1 hNl hi
        omega
      unfold maxLen at hcm
      subst hat hto
      have HSP := hid hsp; have HRES := hid hres; have HF := hid hf; have HI := hid hi; have HTI := hid hti; have HNL := hid hNl; have HINN := hid hinn; have HVL := hid hvl; have HCO := hid hcost
      have m2 := later_cell n2; have k2 := later_cell hcell
      have hne := later_some wr
      clear hsp hres hf hi hti hNl hinn hvl hcost hle hget hkv hky hksl hN n2 hcell e0 hU1 hHl hDl hVS hHM
      go_wp2_with fail
      refine wp_region_later (by kernel_rfl) (by kernel_rfl) ?_
      repeat (go_big_quiet_step (fail))
      refine wpQuiet_nil ?_
      intro _ hw'
      obtain ⟨b2, hw''⟩ := hw'
      subst hw''
      obtain ⟨V, hV⟩ : ∃ V, b2.now = V := ⟨_, rfl⟩
      have hbV : Below wr.heap.size wr V := by rw [← hV]; exact b2.below
      rw [hV]
      have HBV := hid hbV
      clear hV hbV m2 k2 hne
      have HTRY : Hid (∀ V', Below wr.heap.size wr V' → ∀ p, Calls Tryz.prog 69 #[.pointer (some ⟨B, 0, none⟩), .pointer (some ⟨b, o, none⟩), stepV p none 0 0] V' fun e W' => match stepN (sgOf L) (nd x ((H ++ U1) ++ y :: (D ++ T))) p with
          | none => e = .returned (.bool false) ∧ Below V'.heap.size V' W'
          | some r => e = .returned (.bool true) ∧ ResE V' X' w0.heap.size b o A' cur' B S n cap ps r.1.1 (kidsL r.1.2) (vs'.map Wv.b ++ [⟨ps, p, r.2⟩]) W') := hid (fun V' hV' p => by
        have hR := HRES.out.below hV'
        have hlow := Res.low HB.out HNo.out HKo.out hR
        refine try_any w0 S n cap B b o L X' A' x _ _ c' ks' cur' ps vs' pv' sv' bv' p V' HS.out hlow hR.nod hR.wk ?_ (by have := HPS.out; omega) (by have := HVL.out; have := HVS.out; have := HCO.out; omega)
        rw [nodes_nd, ← mid_eq H U1 D T y, sizes_append, sizes_append, sizes_append, sizes_append]
        have h1 := HN.out
        have h2 := HCO.out
        rw [sizes_append, sizes_append] at h1
        rw [sizes_cons, sizes_nil]
        omega)
      by_cases hfl : gaX (sgOf L) x = true ∧ headed x.2 y = true
      · have HC1 : Hid (Calls Tryz.prog 69 #[.pointer (some ⟨B, 0, none⟩), .pointer (some ⟨b, o, none⟩), .agg #[.int .i64 1, .slice none 0 0, .int .i64 (i : Int), .int .i64 0, .int .i64 0]] V fun e W' => e = .returned (.bool true) ∧ ResE V X' w0.heap.size b o A' cur' B S n cap ps x ((H ++ U1) ++ (kidsL y.2 ++ (D ++ T))) (vs'.map Wv.b ++ [(⟨ps, ⟨1, i, 0, 0⟩, ⟨2, i, lenF y.2, 0⟩⟩ : Bs)]) W') := hid (by
          have := HTRY.out V HBV.out ⟨1, i, 0, 0⟩
          have hst := flat_yes hfl.1 (H ++ U1) (D ++ T) hfl.2
          rw [HI.out] at hst
          rw [hst] at this
          have this : Calls Tryz.prog 69 #[.pointer (some ⟨B, 0, none⟩), .pointer (some ⟨b, o, none⟩), stepV ⟨1, i, 0, 0⟩ none 0 0] V fun e W' => e = .returned (.bool true) ∧ ResE V X' w0.heap.size b o A' cur' B S n cap ps x (kidsL (nd x ((H ++ U1) ++ (kidsL y.2 ++ (D ++ T)))).2) (vs'.map Wv.b ++ [(⟨ps, ⟨1, i, 0, 0⟩, ⟨2, i, lenF y.2, 0⟩⟩ : Bs)]) W' := this
          rw [show kidsL (nd x ((H ++ U1) ++ (kidsL y.2 ++ (D ++ T)))).2 = _ from kids_mk _] at this
          exact this)
        go_wp2_with (first | (go_at_call 69; refine HC1.out.mono ?_; rintro e w5 ⟨rfl, hR5⟩; have HR5 := hid hR5; clear hR5) | fail)
        have HNW : Hid (StpSt (sgOf L) ar x H M T W X w0.heap.size b o A cur B S n cap ps ls (sizes (U1 ++ kidsL y.2)) (.int .i64 (ti + ((inn : Int) - 1))) (.int .i64 ((i : Int) + (inn : Int) - 1)) w5) := hid (by
          obtain ⟨A2, X2, a2, c2, ks2, cur2, vs2, pv2, sv2, bv2, hr2⟩ := HR5.out
          have hr := (HRES.out.below HBV.out).trans hr2
          have hkl : (kidsL y.2).length = inn := by rw [kids_len]; exact HINN.out
          refine ⟨U1 ++ kidsL y.2, D, l1 ++ [⟨[], flatP (H ++ U1).length, ⟨2, (H ++ U1).length, lenF y.2, 0⟩⟩], rfl, ?_, ?_, HSP.out.flat hfl.1 hfl.2, A2, X2, a2, c2, ks2, cur2, vs2, pv2, sv2, bv2, ?_⟩
          · rw [← List.append_assoc, List.length_append, HI.out, hkl]; exact congrArg (Value.int .i64) (by omega)
          · rw [← List.append_assoc, List.length_append, HI.out, hkl]; exact congrArg (Value.int .i64) (by have := HTI.out; omega)
          · have e := hr.list
            rw [HRES.out.list] at hr
            rw [show H ++ ((U1 ++ kidsL y.2) ++ (D ++ T)) = (H ++ U1) ++ (kidsL y.2 ++ (D ++ T)) by simp, ← pfx_ls, HI.out]
            exact hr)
        clear HRES HTRY HC1
        go_roundw
        case rel => exact ⟨_, HNW.out⟩
        case measure =>
          have h1 := (HMU.out _ _ _ _ HNW.out).2
          have h2 := HF.out
          have h3 := sizes_kids y
          rw [sizes_append] at h1
          omega
      · have HC1 : Hid (Calls Tryz.prog 69 #[.pointer (some ⟨B, 0, none⟩), .pointer (some ⟨b, o, none⟩), .agg #[.int .i64 1, .slice none 0 0, .int .i64 (i : Int), .int .i64 0, .int .i64 0]] V fun e W' => e = .returned (.bool false) ∧ Below V.heap.size V W') := hid (by
          have := HTRY.out V HBV.out ⟨1, i, 0, 0⟩
          rw [show stepN (sgOf L) (nd x ((H ++ U1) ++ y :: (D ++ T))) ⟨1, i, 0, 0⟩ = none by rw [← HI.out]; exact step_none (H ++ U1) (D ++ T) hfl] at this
          exact this)
        by_cases hun : gaX (sgOf L) x = true ∧ isUn (sgOf L) x.2 y = true
        · by_cases hone : (H ++ U1).length + (D ++ T).length = 1
          · obtain ⟨z, hz⟩ : ∃ z, (H ++ U1) ++ (D ++ T) = [z] := List.length_eq_one_iff.1 (by rw [List.length_append]; exact hone)
            have hN2 : (N : Int) = 2 := by have := HNL.out; omega
            have HC4 : Hid (∀ w5, Below wr.heap.size wr w5 → Calls Tryz.prog 69 #[.pointer (some ⟨B, 0, none⟩), .pointer (some ⟨b, o, none⟩), .agg #[.int .i64 4, .slice none 0 0, .int .i64 (i : Int), .int .i64 0, .int .i64 0]] w5 fun e W' => e = .returned (.bool true) ∧ ResE w5 X' w0.heap.size b o A' cur' B S n cap ps z.1 (kidsL z.2) (vs'.map Wv.b ++ [(⟨ps, ⟨4, i, 0, 0⟩, ⟨5, i, 1, x.2⟩⟩ : Bs)]) W') := hid (fun w5 h5 => by
              have := HTRY.out w5 h5 ⟨4, i, 0, 0⟩
              have hst := drop_one hun.1 (H ++ U1) (D ++ T) hun.2 hz
              rw [HI.out] at hst
              rw [hst] at this
              exact this)
            go_wp2_with (first | (go_at_call 69; refine HC1.out.mono ?_; rintro e w5 ⟨rfl, hb5⟩; have HB5 : Hid (Below wr.heap.size wr w5) := hid (HBV.out.trans (hb5.mono HBV.out.size)); clear hb5 HC1) | (go_at_call 69; refine (HC4.out w5 HB5.out).mono ?_; rintro e w6 ⟨rfl, hR6⟩; have HR6 := hid hR6; clear hR6) | fail)
            refine bodyPost_ret (results_tmp2 rfl _ _ _) rfl ?_
            obtain ⟨A2, X2, a2, c2, ks2, cur2, vs2, pv2, sv2, bv2, hr2⟩ := HR6.out
            have hr := (HRES.out.below HB5.out).trans hr2
            rw [HRES.out.list] at hr
            refine .inr ⟨z, l1 ++ [⟨[], dropP (H ++ U1).length, ⟨5, (H ++ U1).length, 1, x.2⟩⟩], rfl, HSP.out.gone hun.1 hun.2 hz, A2, X2, a2, c2, ks2, cur2, vs2, pv2, sv2, bv2, ?_⟩
            rw [← pfx_ls, HI.out]
            exact hr
          · have hN2 : ¬ (N : Int) = 2 := by have := HNL.out; have := HI.out; omega
            have HC4 : Hid (∀ w5, Below wr.heap.size wr w5 → Calls Tryz.prog 69 #[.pointer (some ⟨B, 0, none⟩), .pointer (some ⟨b, o, none⟩), .agg #[.int .i64 4, .slice none 0 0, .int .i64 (i : Int), .int .i64 0, .int .i64 0]] w5 fun e W' => e = .returned (.bool true) ∧ ResE w5 X' w0.heap.size b o A' cur' B S n cap ps x ((H ++ U1) ++ (D ++ T)) (vs'.map Wv.b ++ [(⟨ps, ⟨4, i, 0, 0⟩, ⟨5, i, 0, x.2⟩⟩ : Bs)]) W') := hid (fun w5 h5 => by
              have := HTRY.out w5 h5 ⟨4, i, 0, 0⟩
              have hst := drop_many hun.1 (H ++ U1) (D ++ T) hun.2 hone
              rw [HI.out] at hst
              rw [hst] at this
              have this : Calls Tryz.prog 69 #[.pointer (some ⟨B, 0, none⟩), .pointer (some ⟨b, o, none⟩), stepV ⟨4, i, 0, 0⟩ none 0 0] w5 fun e W' => e = .returned (.bool true) ∧ ResE w5 X' w0.heap.size b o A' cur' B S n cap ps x (kidsL (nd x ((H ++ U1) ++ (D ++ T))).2) (vs'.map Wv.b ++ [(⟨ps, ⟨4, i, 0, 0⟩, ⟨5, i, 0, x.2⟩⟩ : Bs)]) W' := this
              rw [show kidsL (nd x ((H ++ U1) ++ (D ++ T))).2 = _ from kids_mk _] at this
              exact this)
            go_wp2_with (first | (go_at_call 69; refine HC1.out.mono ?_; rintro e w5 ⟨rfl, hb5⟩; have HB5 : Hid (Below wr.heap.size wr w5) := hid (HBV.out.trans (hb5.mono HBV.out.size)); clear hb5 HC1) | (go_at_call 69; refine (HC4.out w5 HB5.out).mono ?_; rintro e w6 ⟨rfl, hR6⟩; have HR6 := hid hR6; clear hR6) | fail)
            have HNW : Hid (StpSt (sgOf L) ar x H M T W X w0.heap.size b o A cur B S n cap ps ls (sizes U1) (.int .i64 (ti - 1)) (.int .i64 ((i : Int) - 1)) w6) := hid (by
              obtain ⟨A2, X2, a2, c2, ks2, cur2, vs2, pv2, sv2, bv2, hr2⟩ := HR6.out
              have hr := (HRES.out.below HB5.out).trans hr2
              refine ⟨U1, D, l1 ++ [⟨[], dropP (H ++ U1).length, ⟨5, (H ++ U1).length, 0, x.2⟩⟩], rfl, ?_, ?_, HSP.out.drop hun.1 hun.2 hone, A2, X2, a2, c2, ks2, cur2, vs2, pv2, sv2, bv2, ?_⟩
              · rw [HI.out]
              · rw [HI.out]; exact congrArg (Value.int .i64) (by have := HTI.out; omega)
              · rw [HRES.out.list] at hr
                rw [show H ++ (U1 ++ (D ++ T)) = (H ++ U1) ++ (D ++ T) by simp, ← pfx_ls, HI.out]
                exact hr)
            clear HRES HTRY HC4
            go_roundw
            case rel => exact ⟨_, HNW.out⟩
            case measure =>
              have h1 := (HMU.out _ _ _ _ HNW.out).2
              have h2 := HF.out
              have h3 := size_pos y
              omega
        · have HC4 : Hid (∀ w5, Below wr.heap.size wr w5 → Calls Tryz.prog 69 #[.pointer (some ⟨B, 0, none⟩), .pointer (some ⟨b, o, none⟩), .agg #[.int .i64 4, .slice none 0 0, .int .i64 (i : Int), .int .i64 0, .int .i64 0]] w5 fun e W' => e = .returned (.bool false) ∧ Below w5.heap.size w5 W') := hid (fun w5 h5 => by
            have := HTRY.out w5 h5 ⟨4, i, 0, 0⟩
            rw [show stepN (sgOf L) (nd x ((H ++ U1) ++ y :: (D ++ T))) ⟨4, i, 0, 0⟩ = none by rw [← HI.out]; exact drop_none (H ++ U1) (D ++ T) hun] at this
            exact this)
          go_wp2_with (first | (go_at_call 69; refine HC1.out.mono ?_; rintro e w5 ⟨rfl, hb5⟩; have HB5 : Hid (Below wr.heap.size wr w5) := hid (HBV.out.trans (hb5.mono HBV.out.size)); clear hb5 HC1) | (go_at_call 69; refine (HC4.out w5 HB5.out).mono ?_; rintro e w6 ⟨rfl, hR6⟩; have HR6 := hid hR6; clear hR6) | fail)
          have HNW : Hid (StpSt (sgOf L) ar x H M T W X w0.heap.size b o A cur B S n cap ps ls (sizes U1) (.int .i64 ti) (.int .i64 ((i : Int) - 1)) w6) := hid (by
            have hb6 : Below wr.heap.size wr w6 := HB5.out.trans (HR6.out.mono HB5.out.size)
            refine ⟨U1, y :: D, l1, rfl, ?_, ?_, HSP.out.keep (fun hg => ⟨?_, ?_⟩), A', X', some ⟨g, 0, none⟩, c', ks', cur', vs', pv', sv', bv', ?_⟩
            · rw [HI.out]
            · rw [HI.out]; exact congrArg (Value.int .i64) (by have := HTI.out; rw [List.length_cons]; omega)
            · cases hh : headed x.2 y with
              | false => rfl
              | true => exact absurd ⟨hg, hh⟩ hfl
            · cases hh : isUn (sgOf L) x.2 y with
              | false => rfl
              | true => exact absurd ⟨hg, hh⟩ hun
            · rw [show H ++ (U1 ++ (y :: D ++ T)) = (H ++ U1) ++ y :: (D ++ T) by simp]
              exact HRES.out.below hb6)
          clear HRES HTRY HC4
          go_roundw
          case rel => exact ⟨_, HNW.out⟩
          case measure =>
            have h1 := (HMU.out _ _ _ _ HNW.out).2
            have h2 := HF.out
            have h3 := size_pos y
            omega
end Go.Proofs.YtokbgbbkopmngaaGreat
/- The walk's move; a search. -/
namespace Go.Proofs.YtokbgbbkopmngaaGreat
open Go.RowKit Go.Deep

theorem results_none {fn : Func} (h : fn.results = #[]) (tmps : Array Value) (P : Program) (w : World) : (results fn tmps).run P w = .ok (.tuple #[]) w := by
  simp only [results, h]
  simp
theorem pfx_one (ls : List Bs) (ps : List Int) (p q : Sp) : ls ++ [(⟨ps, p, q⟩ : Bs)] = ls ++ ([(⟨[], p, q⟩ : Bs)]).map (pfx ps) := by simp [pfx]
theorem pfx_three (ls : List Bs) (ps : List Int) (p q p2 q2 p3 q3 : Sp) : ((ls ++ [(⟨ps, p, q⟩ : Bs)]) ++ [(⟨ps, p2, q2⟩ : Bs)]) ++ [(⟨ps, p3, q3⟩ : Bs)] = ls ++ ([(⟨[], p, q⟩ : Bs), ⟨[], p2, q2⟩, ⟨[], p3, q3⟩]).map (pfx ps) := by simp [pfx]
/-- What move leaves. -/
def MovEnd (S' : Sg) (x : ByteArray × Int) (A1 A2 : List Tn) (y : Tn) (R : List Tn) (W : World) (X : Bl) (N0 b o : Nat) (A : Bl) (cur : Array Value) (B : Nat) (S : Option Addr) (n cap : Nat) (ps : List Int) (ls : List Bs) (e : Ending) (W' : World) : Prop :=
  (∃ v, e = .returned v) ∧ ∃ lm, MvEnd S' x A1 A2 y R lm ∧ ResE W X N0 b o A cur B S n cap ps x (A1 ++ (y :: A2 ++ R)) (ls ++ lm.map (pfx ps)) W'
set_option maxRecDepth 100000 in
set_option maxHeartbeats 4000000 in
theorem move_any (w0 : World) (S : Option Addr) (n cap B b o : Nat) (L : List Sym) (X A : Bl) (x : ByteArray × Int) (A1 A2 R : List Tn) (y : Tn) (a : Option Addr) (c : Nat) (ks : List Kv) (cur : Array Value) (ps : List Int) (vs : List Wv) (pv sv bv : Value) (W : World)
    (hS : SigAt w0 S n L) (hb : Below w0.heap.size w0 W) (hN : Nod W X w0.heap.size b o A x (A1 ++ (A2 ++ y :: R)) a c ks cur) (hK : Wk W X w0.heap.size B S n cap ps vs pv sv bv) (hg : gaX (sgOf L) x = true) (hn : sizes (A1 ++ (A2 ++ y :: R)) ≤ 1000000) (hps : ps.length ≤ 1000000) (hvs : vs.length + 3 ≤ 1000000) :
    Calls Tryz.prog 73 #[.pointer (some ⟨B, 0, none⟩), .pointer (some ⟨b, o, none⟩), .int .i64 ((A1.length : Int) + (A2.length : Int)), .int .i64 (A1.length : Int)] W (MovEnd (sgOf L) x A1 A2 y R W X w0.heap.size b o A cur B S n cap ps (vs.map Wv.b)) := by
  have hlen := len_sizes (A1 ++ (A2 ++ y :: R))
  simp only [List.length_append, List.length_cons] at hlen
  obtain ⟨i, hi⟩ : ∃ i : Nat, A1.length = i := ⟨_, rfl⟩
  obtain ⟨m, hm⟩ : ∃ m : Nat, A2.length = m := ⟨_, rfl⟩
  rw [hi, hm] at hlen ⊢
  have hil : i ≤ 1000000 := by omega
  have hml : m ≤ 1000000 := by omega
  have hnl : nodesF (nd x (A1 ++ (A2 ++ y :: R))).2 ≤ 1048576 := by rw [nodes_nd]; omega
  have hT0 := fun p => try_any w0 S n cap B b o L X A x _ a c ks cur ps vs pv sv bv p W hS hb hN hK hnl (by omega) (by omega)
  have HS := hid hS; have HB := hid hb; have HNo := hid hN; have HKo := hid hK; have HG := hid hg; have HN := hid hn; have HPS := hid hps; have HVS := hid hvs; have HT0 := hid hT0; have HI := hid hi; have HM := hid hm
  clear hS hb hN hK hg hn hps hvs hT0 hlen hnl hi hm
  have hm0 : m = 0 ∨ m = 1 ∨ 2 ≤ m := by omega
  rcases hm0 with rfl | rfl | hm2
  · have hA2 : A2 = [] := List.length_eq_zero_iff.1 HM.out
    subst hA2
    go_enter Tryz.func73, Tryz.ntmps73
    go_wp2_with fail
    refine bodyPost_ret (results_none rfl _ _ _) rfl ?_
    refine ⟨⟨_, rfl⟩, [], MvEnd.none, A, X, a, c, ks, cur, vs, pv, sv, bv, ?_⟩
    have := Res.self HNo.out HKo.out (Below.refl _ W)
    simpa using this
  · obtain ⟨a0, rfl⟩ : ∃ a0, A2 = [a0] := List.length_eq_one_iff.1 HM.out
    have hst := swap_yes HG.out A1 R a0 y
    rw [HI.out] at hst
    have hc := HT0.out ⟨3, i, 0, 0⟩
    rw [show nd x (A1 ++ ([a0] ++ y :: R)) = nd x (A1 ++ a0 :: y :: R) from rfl, hst] at hc
    have hc : Calls Tryz.prog 69 #[.pointer (some ⟨B, 0, none⟩), .pointer (some ⟨b, o, none⟩), .agg #[.int .i64 3, .slice none 0 0, .int .i64 (i : Int), .int .i64 0, .int .i64 0]] W fun e W' => e = .returned (.bool true) ∧ ResE W X w0.heap.size b o A cur B S n cap ps x (kidsL (nd x (A1 ++ y :: a0 :: R)).2) (vs.map Wv.b ++ [(⟨ps, ⟨3, i, 0, 0⟩, ⟨3, i, 0, 0⟩⟩ : Bs)]) W' := hc
    rw [show kidsL (nd x (A1 ++ y :: a0 :: R)).2 = _ from kids_mk _] at hc
    have HC := hid hc
    clear hc hst
    go_enter Tryz.func73, Tryz.ntmps73
    go_wp2_with (first | (go_at_call 69; refine HC.out.mono ?_; rintro e w1 ⟨rfl, hR1⟩; have HR1 := hid hR1; clear hR1) | fail)
    refine bodyPost_ret (results_none rfl _ _ _) rfl ?_
    refine ⟨⟨_, rfl⟩, _, MvEnd.one HG.out, ?_⟩
    rw [HI.out, ← pfx_one]
    exact HR1.out
  · have hA2 : 2 ≤ A2.length := by rw [HM.out]; exact hm2
    have h1 : 1 ≤ A1.length + (y :: R).length := by rw [List.length_cons]; omega
    have hst := group_yes HG.out A1 A2 (y :: R) hA2 h1
    rw [HI.out, HM.out] at hst
    have hc := HT0.out ⟨2, i, m, 0⟩
    rw [hst] at hc
    have hc : Calls Tryz.prog 69 #[.pointer (some ⟨B, 0, none⟩), .pointer (some ⟨b, o, none⟩), .agg #[.int .i64 2, .slice none 0 0, .int .i64 (i : Int), .int .i64 (m : Int), .int .i64 0]] W fun e W' => e = .returned (.bool true) ∧ ResE W X w0.heap.size b o A cur B S n cap ps x (kidsL (nd x (A1 ++ ((noB, x.2), mkF A2) :: y :: R)).2) (vs.map Wv.b ++ [(⟨ps, ⟨2, i, m, 0⟩, ⟨1, i, 0, 0⟩⟩ : Bs)]) W' := hc
    rw [show kidsL (nd x (A1 ++ ((noB, x.2), mkF A2) :: y :: R)).2 = _ from kids_mk _] at hc
    have HC := hid hc
    have hmm : (m : Int) ≠ 0 := by omega
    have hm1 : (1 : Int) < (m : Int) := by omega
    clear hc hst h1 hA2 HT0
    go_enter Tryz.func73, Tryz.ntmps73
    go_wp2_with fail
    rw [show (i : Int) + (m : Int) - (i : Int) = (m : Int) by omega]
    refine HC.out.mono ?_
    rintro e w1 ⟨rfl, A', X', a1, c1, ks1, cur1, vs1, pv1, sv1, bv1, hR1⟩
    have hlw := Res.low HB.out HNo.out HKo.out hR1
    have hv1 : vs1.length = vs.length + 1 := by have := congrArg List.length hR1.list; simpa using this
    have hsz : sizes (A1 ++ ((noB, x.2), mkF A2) :: y :: R) ≤ 1000001 := by
      have h1 := HN.out
      have h2 : sizeT (((noB, x.2), mkF A2) : Tn) = sizes A2 + 1 := size_nd _ _
      simp only [sizes_append, sizes_cons] at h1 ⊢
      omega
    have hc2 := try_any w0 S n cap B b o L X' A' x _ a1 c1 ks1 cur1 ps vs1 pv1 sv1 bv1 ⟨3, i, 0, 0⟩ w1 HS.out hlw hR1.nod hR1.wk (by rw [nodes_nd]; omega) (by have := HPS.out; omega) (by have := HVS.out; omega)
    have hst := swap_yes HG.out A1 R ((noB, x.2), mkF A2) y
    rw [HI.out] at hst
    rw [hst] at hc2
    have hc2 : Calls Tryz.prog 69 #[.pointer (some ⟨B, 0, none⟩), .pointer (some ⟨b, o, none⟩), .agg #[.int .i64 3, .slice none 0 0, .int .i64 (i : Int), .int .i64 0, .int .i64 0]] w1 fun e W' => e = .returned (.bool true) ∧ ResE w1 X' w0.heap.size b o A' cur1 B S n cap ps x (kidsL (nd x (A1 ++ y :: ((noB, x.2), mkF A2) :: R)).2) (vs1.map Wv.b ++ [(⟨ps, ⟨3, i, 0, 0⟩, ⟨3, i, 0, 0⟩⟩ : Bs)]) W' := hc2
    rw [show kidsL (nd x (A1 ++ y :: ((noB, x.2), mkF A2) :: R)).2 = _ from kids_mk _] at hc2
    have HC2 := hid hc2; have HR1 := hid hR1; have HV1 := hid hv1; have HSZ := hid hsz
    clear hc2 hst hlw hR1 hv1 hsz HC
    go_wp2_with fail
    refine HC2.out.mono ?_
    rintro e w2 ⟨rfl, A'', X'', a2, c2, ks2, cur2, vs2, pv2, sv2, bv2, hR2⟩
    have hR := HR1.out.trans hR2
    have hlw := Res.low HB.out HNo.out HKo.out hR
    have hv2 : vs2.length = vs.length + 2 := by have := congrArg List.length hR2.list; have h1 := HV1.out; simp at this; omega
    have hsz2 : sizes ((A1 ++ [y]) ++ ((noB, x.2), mkF A2) :: R) ≤ 1000001 := by
      have h1 := HSZ.out
      simp only [sizes_append, sizes_cons, sizes_nil] at h1 ⊢
      omega
    have hle : A1 ++ y :: ((noB, x.2), mkF A2) :: R = (A1 ++ [y]) ++ ((noB, x.2), mkF A2) :: R := by simp
    rw [hle] at hR
    have hc3 := try_any w0 S n cap B b o L X'' A'' x _ a2 c2 ks2 cur2 ps vs2 pv2 sv2 bv2 ⟨1, ((i + 1 : Nat) : Int), 0, 0⟩ w2 HS.out hlw hR.nod hR.wk (by rw [nodes_nd]; omega) (by have := HPS.out; omega) (by have := HVS.out; omega)
    have hst := flat_yes HG.out (A1 ++ [y]) R (y := ((noB, x.2), mkF A2)) (headed_iff.2 ⟨noName_noB, rfl⟩)
    have hyl : (A1 ++ [y]).length = i + 1 := by rw [List.length_append, HI.out]; rfl
    rw [hyl, kids_mk] at hst
    rw [hst] at hc3
    have hc3 : Calls Tryz.prog 69 #[.pointer (some ⟨B, 0, none⟩), .pointer (some ⟨b, o, none⟩), .agg #[.int .i64 1, .slice none 0 0, .int .i64 ((i + 1 : Nat) : Int), .int .i64 0, .int .i64 0]] w2 fun e W' => e = .returned (.bool true) ∧ ResE w2 X'' w0.heap.size b o A'' cur2 B S n cap ps x (kidsL (nd x ((A1 ++ [y]) ++ (A2 ++ R))).2) (vs2.map Wv.b ++ [(⟨ps, ⟨1, ((i + 1 : Nat) : Int), 0, 0⟩, ⟨2, ((i + 1 : Nat) : Int), lenF (mkF A2), 0⟩⟩ : Bs)]) W' := hc3
    rw [show kidsL (nd x ((A1 ++ [y]) ++ (A2 ++ R))).2 = _ from kids_mk _, show ((i + 1 : Nat) : Int) = (i : Int) + 1 by omega] at hc3
    have HC3 := hid hc3; have HR := hid hR; have HYL := hid hyl
    have HL1 := hid HR1.out.list; have HL2 := hid hR2.list
    clear hc3 hst hlw hR hR2 hv2 hsz2 hle hyl HC2
    go_wp2_with fail
    refine HC3.out.mono ?_
    rintro e w3 ⟨rfl, A3, X3, a3, c3, ks3, cur3, vs3, pv3, sv3, bv3, hR3⟩
    have hRR := HR.out.trans hR3
    have HRR := hid hRR
    clear hRR hR3 HC3
    go_wp2_with fail
    refine bodyPost_ret (results_none rfl _ _ _) rfl ?_
    refine ⟨⟨_, rfl⟩, _, MvEnd.many HG.out (by rw [HM.out]; exact hm2), A3, X3, a3, c3, ks3, cur3, vs3, pv3, sv3, bv3, ?_⟩
    have h0 := HRR.out
    rw [HL2.out, HL1.out, pfx_three] at h0
    rw [HI.out, HM.out, HYL.out, show ((i + 1 : Nat) : Int) = (i : Int) + 1 by omega, show A1 ++ (y :: A2 ++ R) = (A1 ++ [y]) ++ (A2 ++ R) by simp]
    exact h0
end Go.Proofs.YtokbgbbkopmngaaGreat
/- A search; the walk's order. -/
namespace Go.Proofs.YtokbgbbkopmngaaGreat
open Go.RowKit Go.Deep

set_option maxRecDepth 100000 in
set_option maxHeartbeats 4000000 in
theorem search_any (N : Nat) (P : Nat → Bool) (g1 g2 : Nat) (w : World) (hN : N ≤ 1000000) (hmono : ∀ i j, i ≤ j → j < N → P i = true → P j = true)
    (hf : ∀ i, i < N → ∀ V, Below w.heap.size w V → Calls Tryz.prog 72 #[.int .i64 (i : Int), .pointer (some ⟨g1, 0, none⟩), .pointer (some ⟨g2, 0, none⟩)] V fun e w' => e = .returned (.bool (P i)) ∧ Below V.heap.size V w') :
    Calls Tryz.prog 71 #[.int .i64 (N : Int), .func (.func 72) #[] #[.pointer (some ⟨g1, 0, none⟩), .pointer (some ⟨g2, 0, none⟩)]] w fun e w' => ∃ t : Nat, t ≤ N ∧ e = .returned (.int .i64 (t : Int)) ∧ (∀ q, q < t → P q = false) ∧ (∀ q, t ≤ q → q < N → P q = true) ∧ Below w.heap.size w w' := by
  have HMO := hid hmono; have HF := hid hf
  clear hmono hf
  go_enter Tryz.func71, Tryz.ntmps71
  go_wp2_with fail
  go_loopw [5, 6, 7] (fun iv jv _ wr => ∃ (i j : Nat), iv = .int .i64 i ∧ jv = .int .i64 j ∧ i ≤ j ∧ j ≤ N ∧ (∀ q, q < i → P q = false) ∧ (∀ q, j ≤ q → q < N → P q = true) ∧ Below w.heap.size w wr) (fun iv jv _ _ => (intOf jv).toNat - (intOf iv).toNat)
  case atStart => exact ⟨0, N, rfl, rfl, Nat.zero_le _, Nat.le_refl _, fun q h => absurd h (by omega), fun q h1 h2 => absurd h2 (by omega), Below.refl _ _⟩
  case round =>
    obtain ⟨i, j, rfl, rfl, hij, hj, hlo, hhi, hb⟩ := hrel
    have HLO := hid hlo; have HHI := hid hhi; have HB := hid hb
    clear hlo hhi hb
    by_cases hlt : i < j
    · go_wp2_with fail
      have hh : ((i : Int) + (j : Int)) / 2 = (((i + j) / 2 : Nat) : Int) := by omega
      have hh1 : i ≤ (i + j) / 2 := by omega
      have hh2 : (i + j) / 2 < j := by omega
      rw [hh]
      clear hh
      generalize (i + j) / 2 = m at hh1 hh2 ⊢
      obtain ⟨r, hr⟩ : ∃ r, P m = r := ⟨_, rfl⟩
      have HC := hid (HF.out m (by omega) wr HB.out)
      rw [hr] at HC
      have HR := hid hr
      clear hr
      refine HC.out.mono ?_
      rintro e w2 ⟨rfl, hb2⟩
      have HB2 := hid (HB.out.trans (hb2.mono HB.out.size))
      clear hb2 HC
      cases r
      · go_wp2_with fail
        go_roundw
        case rel =>
          refine ⟨m + 1, j, by go_num, rfl, by omega, hj, fun q h => ?_, HHI.out, HB2.out⟩
          by_cases e : P q = true
          · have := HMO.out q m (by omega) (by omega) e
            rw [HR.out] at this; cases this
          · simpa using e
        case measure => simp [intOf]; omega
      · go_wp2_with fail
        go_roundw
        case rel => exact ⟨i, m, rfl, rfl, hh1, by omega, HLO.out, fun q h1 h2 => HMO.out m q h1 h2 HR.out, HB2.out⟩
        case measure => simp [intOf]; omega
    · have e : i = j := by omega
      subst e
      go_wp2
      go_ret
      exact ⟨i, hj, rfl, HLO.out, HHI.out, HB.out⟩
/-- One of a node's arguments whole. -/
structure KidC (w : World) (g i : Nat) (y : Tn) (ka : Option Addr) (kc : Nat) : Prop where
  c0 : w.cell? ⟨g, i * 3, none⟩ = some (.string y.1.1)
  c1 : w.cell? ⟨g, i * 3 + 1, none⟩ = some (.int .i64 y.1.2)
  c2 : w.cell? ⟨g, i * 3 + 2, none⟩ = some (.slice ka (lenF y.2) kc)
  tm : TmAt w y.1 ka kc y.2
theorem KidC.below {w w' : World} {g i : Nat} {y : Tn} {ka : Option Addr} {kc : Nat} (h : KidC w g i y ka kc) (hb : Below w.heap.size w w') : KidC w' g i y ka kc := ⟨below_cell hb _ _ h.c0, below_cell hb _ _ h.c1, below_cell hb _ _ h.c2, h.tm.below hb⟩
theorem nod_kidC {W : World} {X : Bl} {N0 b o : Nat} {A : Bl} {x : ByteArray × Int} {l : List Tn} {a : Option Addr} {c : Nat} {ks : List Kv} {cur : Array Value} (h : Nod W X N0 b o A x l a c ks cur) {g : Nat} (ha : a = some ⟨g, 0, none⟩) {i : Nat} {y : Tn} (hy : l[i]? = some y) : ∃ ka kc, KidC W g i y ka kc := by
  have hk := h.kids
  rw [← hk, List.getElem?_map] at hy
  cases hkv : ks[i]? with
  | none => rw [hkv] at hy; cases hy
  | some kv =>
    rw [hkv] at hy
    have hy : some kv.tn = some y := hy
    cases hy
    have hi : i < ks.length := (List.getElem?_eq_some_iff.1 hkv).1
    rcases h.pl.row.row with ⟨e, _⟩ | ⟨g', e, _, hR, hG⟩
    · rw [e] at hi; simp at hi
    · rw [ha] at e
      cases e
      obtain ⟨A1, A2, _, _, hyF, _⟩ := gl_pick hG hkv
      obtain ⟨y0, y1, y2⟩ := kv_cells hkv
      exact ⟨kv.a, kv.c, hR.cells y0, hR.cells y1, hR.cells y2, hyF.tm⟩
set_option maxRecDepth 100000 in
set_option maxHeartbeats 4000000 in
theorem order1_any (b o Bn Bf i fr N c g : Nat) (y z : Tn) (ka kb : Option Addr) (kc kd : Nat) (w : World) (hn : w.cell? ⟨Bn, 0, none⟩ = some (.pointer (some ⟨b, o, none⟩))) (hf : w.cell? ⟨Bf, 0, none⟩ = some (.int .i64 (fr : Int))) (h2 : w.cell? ⟨b, o + 2, none⟩ = some (.slice (some ⟨g, 0, none⟩) N c)) (hi : i < N) (hfr : fr < N)
    (hy : KidC w g i y ka kc) (hz : KidC w g fr z kb kd) :
    Calls Tryz.prog 72 #[.int .i64 (i : Int), .pointer (some ⟨Bn, 0, none⟩), .pointer (some ⟨Bf, 0, none⟩)] w fun e w' => e = .returned (.bool (decide (0 < cmpN y z))) ∧ Below w.heap.size w w' := by
  obtain ⟨r, hr⟩ : ∃ r, cmpN y z = r := ⟨_, rfl⟩
  rw [hr]
  have HC : Hid (∀ V, Below w.heap.size w V → Calls Tryz.prog 41 #[.agg #[.string y.1.1, .int .i64 y.1.2, .slice ka (lenF y.2) kc], .agg #[.string z.1.1, .int .i64 z.1.2, .slice kb (lenF z.2) kd]] V fun e w' => e = .returned (.int .i64 r) ∧ Below V.heap.size V w') := hid (fun V hV => by
    refine Calls.mono (compare_all _ y.1 z.1 ka kb kc kd y.2 z.2 V (Nat.le_refl _) (hy.tm.below hV) (hz.tm.below hV)) (fun e w' hh => ⟨by rw [← hr]; exact hh.1, hh.2.below⟩))
  have m0 := later_cell hn; have m1 := later_cell hf; have m2 := later_cell h2
  have y0 := later_cell hy.c0; have y1 := later_cell hy.c1; have y2 := later_cell hy.c2
  have z0 := later_cell hz.c0; have z1 := later_cell hz.c1; have z2 := later_cell hz.c2
  have hne := later_some w
  have hi0 : (0 : Int) ≤ (i : Int) := by omega
  have hin : (i : Int) < (N : Int) := by omega
  have hf0 : (0 : Int) ≤ (fr : Int) := by omega
  have hfn : (fr : Int) < (N : Int) := by omega
  clear hn hf h2 hy hz hr
  go_enter Tryz.func72, Tryz.ntmps72
  go_wp2_with fail
  refine wp_region_later (by kernel_rfl) (by kernel_rfl) ?_
  repeat (go_big_quiet_step (first | (go_at_call 41; with_reducible refine calls_later (HC.out _ ?_); exact Later.below _) | fail))
  refine wpQuiet_nil ?_
  intro _ hw'
  obtain ⟨b3, hw''⟩ := hw'
  subst hw''
  have HB3 := hid b3.below
  clear m0 m1 m2 y0 y1 y2 z0 z1 z2 hne
  go_wp2
  go_ret
  refine ⟨?_, HB3.out⟩
  rfl
/-- What order leaves. -/
def OrdEnd (S' : Sg) (x : ByteArray × Int) (l : List Tn) (W : World) (X : Bl) (N0 b o : Nat) (A : Bl) (cur : Array Value) (B : Nat) (S : Option Addr) (n cap : Nat) (ps : List Int) (ls : List Bs) (e : Ending) (W' : World) : Prop :=
  (∃ v, e = .returned v) ∧ ∃ A1 lo, OrEnd S' x l A1 lo ∧ ResE W X N0 b o A cur B S n cap ps x A1 (ls ++ lo.map (pfx ps)) W'
/-- order's loop. -/
def OrSo (S' : Sg) (x : ByteArray × Int) (l : List Tn) (W : World) (X : Bl) (N0 b o : Nat) (A : Bl) (cur : Array Value) (B : Nat) (S : Option Addr) (n cap : Nat) (ps : List Int) (ls : List Bs) (j : Nat) (wr : World) : Prop :=
  ∃ A1 R lo, A1.length = j ∧ OrSt S' x l A1 R lo ∧ ResE W X N0 b o A cur B S n cap ps x (A1 ++ R) (ls ++ lo.map (pfx ps)) wr
theorem srt_mono {A : List Tn} (h : Srt A) (z : Tn) {i j : Nat} {a b : Tn} (hij : i ≤ j) (ha : A[i]? = some a) (hb : A[j]? = some b) (hp : 0 < cmpN a z) : 0 < cmpN b z := by
  by_cases e : i = j
  · subst e
    rw [ha] at hb
    cases hb
    exact hp
  · have hle : leN a b := by
      obtain ⟨h1, e1⟩ := List.getElem?_eq_some_iff.1 ha
      obtain ⟨h2, e2⟩ := List.getElem?_eq_some_iff.1 hb
      have := List.pairwise_iff_getElem.1 h i j h1 h2 (by omega)
      rw [e1, e2] at this
      exact this
    have hbz : leN b z → False := fun h3 => by
      have := leN_trans hle h3
      unfold leN at this
      omega
    unfold leN at hbz
    exact Int.not_le.1 (fun h => hbz h)
theorem split_at {A : List Tn} {z : Tn} {t : Nat} (ht : t ≤ A.length) (h1 : ∀ q a, q < t → A[q]? = some a → cmpN a z ≤ 0) (h2 : ∀ q a, t ≤ q → A[q]? = some a → 0 < cmpN a z) : ∃ A1 A2, A = A1 ++ A2 ∧ A1.length = t ∧ (∀ a ∈ A1, cmpN a z ≤ 0) ∧ ∀ a ∈ A2, 0 < cmpN a z := by
  refine ⟨A.take t, A.drop t, (List.take_append_drop t A).symm, by rw [List.length_take]; omega, fun a ha => ?_, fun a ha => ?_⟩
  · obtain ⟨q, hq, e⟩ := List.getElem_of_mem ha
    rw [List.length_take] at hq
    rw [List.getElem_take] at e
    exact h1 q a (by omega) (List.getElem?_eq_some_iff.2 ⟨by omega, e⟩)
  · obtain ⟨q, hq, e⟩ := List.getElem_of_mem ha
    rw [List.length_drop] at hq
    rw [List.getElem_drop] at e
    exact h2 (t + q) a (by omega) (List.getElem?_eq_some_iff.2 ⟨by omega, e⟩)

set_option maxRecDepth 100000 in
set_option maxHeartbeats 8000000 in
theorem order_any (w0 : World) (S : Option Addr) (n cap B b o : Nat) (L : List Sym) (X A : Bl) (x : ByteArray × Int) (l : List Tn) (a : Option Addr) (c : Nat) (ks : List Kv) (cur : Array Value) (ps : List Int) (vs : List Wv) (pv sv bv : Value) (W : World)
    (hS : SigAt w0 S n L) (hb : Below w0.heap.size w0 W) (hN : Nod W X w0.heap.size b o A x l a c ks cur) (hK : Wk W X w0.heap.size B S n cap ps vs pv sv bv) (hn : sizes l ≤ 1000000) (hps : ps.length ≤ 1000000) (hvs : vs.length + 3 * l.length ≤ 900000) :
    Calls Tryz.prog 46 #[.pointer (some ⟨B, 0, none⟩), .pointer (some ⟨b, o, none⟩)] W (OrdEnd (sgOf L) x l W X w0.heap.size b o A cur B S n cap ps (vs.map Wv.b)) := by
  obtain ⟨W0, hW0⟩ : ∃ W0, W.alloc (.cells #[.pointer (some ⟨b, o, none⟩)] 60) = W0 := ⟨_, rfl⟩
  have hb0 : Below W.heap.size W W0 := by rw [← hW0]; exact alloc_below0 _ _
  have hBn : Box W0 W.heap.size 60 #[.pointer (some ⟨b, o, none⟩)] := by rw [← hW0]; exact Box.new _ _ _
  have hR0 := Res.self hN hK hb0
  have hlow0 := Res.low hb hN hK hR0
  obtain ⟨gg, hgg⟩ : ∃ gg, gaX (sgOf L) x = gg := ⟨_, rfl⟩
  have HPA : Hid (∀ V, Below W0.heap.size W0 V → Calls Tryz.prog 37 #[.slice S n cap, .pointer (some ⟨b, o, none⟩)] V fun e w2 => e = .returned (placeV S n cap b o (unitI L x.2) (unitOk L x.2)) ∧ Below V.heap.size V w2) := hid (fun V hV => by
    have hbV : Below w0.heap.size w0 V := hlow0.trans (hV.mono hlow0.size)
    exact placeAt_any S n cap b o L x a ks.length c V (hS.below hbV) (hR0.nod.pl.nd.below hV))
  have HGA : Hid (∀ V, Below W0.heap.size W0 V → Calls Tryz.prog 70 #[placeV S n cap b o (unitI L x.2) (unitOk L x.2)] V fun e w2 => e = .returned (.bool gg) ∧ Below V.heap.size V w2) := hid (fun V hV => by
    have hbV : Below w0.heap.size w0 V := hlow0.trans (hV.mono hlow0.size)
    have := gathers_any S n cap b o (unitI L x.2) (unitOk L x.2) L x a ks.length c V (hS.below hbV) (hR0.nod.pl.nd.below hV)
    rw [show (noName x.1 && joinsAt L x.2) = gg from hgg] at this
    exact this)
  have m0 := later_cell (hBn.v (k := 0) rfl); have m1 := later_cell (hR0.wk.box.v (k := 0) rfl)
  have hne := later_some W0
  have hlen := len_sizes l
  obtain ⟨Bn, hBne⟩ : ∃ Bn, W.heap.size = Bn := ⟨_, rfl⟩
  rw [hBne] at hBn m0
  have HS := hid hS; have HB := hid hb; have HNo := hid hN; have HKo := hid hK; have HN := hid hn; have HPS := hid hps; have HVS := hid hvs; have HR0 := hid hR0; have HG := hid hgg; have HBN := hid hBn; have HBNE := hid hBne; have HBW := hid hb0; have HLEN := hid hlen
  clear hS hb hN hK hn hps hvs hR0 hlow0 hgg hBn hBne hb0 hlen
  go_enter Tryz.func46, Tryz.ntmps46
  go_wp2_with fail
  clear hW0
  rw [HBNE.out]
  refine wp_region_later (by kernel_rfl) (by kernel_rfl) ?_
  repeat (go_big_quiet_step (first | (go_at_call 37; with_reducible refine calls_later (HPA.out _ ?_); exact Later.below _) | (go_at_call 70; with_reducible refine calls_later (HGA.out _ ?_); exact Later.below _) | fail))
  refine wpQuiet_nil ?_
  intro _ hw'
  obtain ⟨b3, hw''⟩ := hw'
  subst hw''
  obtain ⟨W1, hW1⟩ : ∃ W1, b3.now = W1 := ⟨_, rfl⟩
  have hb01 : Below W0.heap.size W0 W1 := by rw [← hW1]; exact b3.below
  rw [hW1]
  have HB01 := hid hb01
  clear m0 m1 hne hW1 hb01 HPA HGA
  cases gg with
  | false =>
    go_wp2_with fail
    refine bodyPost_ret (results_none rfl _ _ _) rfl ?_
    refine ⟨⟨_, rfl⟩, l, [], OrEnd.free HG.out, A, X, a, c, ks, cur, vs, pv, sv, bv, ?_⟩
    have := HR0.out.below HB01.out
    simpa using this
  | true =>
    have hR1 := HR0.out.below HB01.out
    have hBn1 := HBN.out.below HB01.out
    have n0 := hBn1.v (k := 0) rfl
    have n2 := hR1.nod.pl.nd.list
    obtain ⟨N, hN⟩ : ∃ N : Nat, l.length = N := ⟨_, rfl⟩
    have hksl : ks.length = N := by rw [← hN, ← hR1.nod.kids, List.length_map]
    rw [hksl] at n2
    have hNl : N ≤ 1000000 := by have := HLEN.out; have := HN.out; omega
    have HR1 := hid hR1; have HBN1 := hid hBn1; have HNL := hid hN
    have H0 : Hid (OrSo (sgOf L) x l W0 X w0.heap.size b o A cur B S n cap ps (vs.map Wv.b) 0 W1) := hid ⟨[], l, [], rfl, OrSt.start, A, X, a, c, ks, cur, vs, pv, sv, bv, by simpa using Res.self HR0.out.nod HR0.out.wk HB01.out⟩
    have HBX : Hid (¬ A Bn ∧ ¬ X Bn ∧ Bn ≠ b) := hid ⟨fun h => by have := (HNo.out.low Bn h).2; have := HBNE.out; omega, fun h => by have := (HKo.out.low Bn h).2; have := HBNE.out; omega, fun e => by have := HNo.out.pl.lt; have := HBNE.out; omega⟩
    clear hR1 hBn1 hN hksl
    simp only [Bool.not_true]
    go_wp2_with fail
    clear n0 n2
    go_loopw [19] (fun ix wr => ∃ j : Nat, j ≤ N ∧ ix = .int .i64 j ∧ OrSo (sgOf L) x l W0 X w0.heap.size b o A cur B S n cap ps (vs.map Wv.b) j wr ∧ Box wr Bn 60 #[.pointer (some ⟨b, o, none⟩)]) (fun ix _ => N - (intOf ix).toNat)
    case atStart => exact ⟨0, Nat.zero_le _, rfl, H0.out, HBN1.out⟩
    case round =>
      obtain ⟨j, hj, rfl, hso, hbn⟩ := hrel
      obtain ⟨A1, R, lo, hA1, hor, A', X', a', c', ks', cur', vs', pv', sv', bv', hres⟩ := hso
      have hpl := hor.perm.length_eq
      rw [List.length_append] at hpl
      by_cases hlt : j < N
      · obtain ⟨z, R1, rfl⟩ : ∃ z R1, R = z :: R1 := by
          cases R with
          | nil => exfalso; have := HNL.out; simp at hpl; omega
          | cons z R1 => exact ⟨z, R1, rfl⟩
        have hget : (A1 ++ z :: R1)[j]? = some z := by rw [← hA1]; exact at_get A1 R1 z
        obtain ⟨g, kv, rfl, _, _, _, _, _, hksl⟩ := nod_kid hres.nod hget
        have hlw := Res.low (HB.out.trans (HBW.out.mono HB.out.size)) HR0.out.nod HR0.out.wk hres
        obtain ⟨kb, kd, hz⟩ := nod_kidC hres.nod rfl hget
        have n2 := hres.nod.pl.nd.list
        have hNN : ks'.length = N := by rw [hksl, List.length_append, List.length_cons]; have := HNL.out; simp at hpl; omega
        rw [hNN] at n2
        obtain ⟨W5, hW5⟩ : ∃ W5, wr.alloc (.cells #[.int .i64 (j : Int)] 3) = W5 := ⟨_, rfl⟩
        have hb5 : Below wr.heap.size wr W5 := by rw [← hW5]; exact alloc_below0 _ _
        have hBf : Box W5 wr.heap.size 3 #[.int .i64 (j : Int)] := by rw [← hW5]; exact Box.new _ _ _
        obtain ⟨Bf, hBfe⟩ : ∃ Bf, wr.heap.size = Bf := ⟨_, rfl⟩
        rw [hBfe] at hBf
        obtain ⟨P, hP⟩ : ∃ P : Nat → Bool, P = fun q => match A1[q]? with | some a => decide (0 < cmpN a z) | none => true := ⟨_, rfl⟩
        have hsrt := hor.srt
        have HPq : Hid (∀ q a, A1[q]? = some a → P q = decide (0 < cmpN a z)) := hid (fun q a h => by rw [hP]; simp only [h])
        have hSE := search_any j P Bn Bf W5 (by omega) (fun i1 j1 h1 h2 h3 => by
          obtain ⟨a1, e1⟩ : ∃ a1, A1[i1]? = some a1 := ⟨_, List.getElem?_eq_getElem (by omega)⟩
          obtain ⟨a2, e2⟩ : ∃ a2, A1[j1]? = some a2 := ⟨_, List.getElem?_eq_getElem (by omega)⟩
          rw [HPq.out i1 a1 e1] at h3
          rw [HPq.out j1 a2 e2]
          exact decide_eq_true (srt_mono hsrt z h1 e1 e2 (of_decide_eq_true h3))) (fun q hq V hV => by
          obtain ⟨a1, e1⟩ : ∃ a1, A1[q]? = some a1 := ⟨_, List.getElem?_eq_getElem (by omega)⟩
          rw [HPq.out q a1 e1]
          have hbV : Below wr.heap.size wr V := hb5.trans (hV.mono hb5.size)
          obtain ⟨ka, kc, hy⟩ := nod_kidC hres.nod rfl (i := q) (y := a1) (by rw [List.getElem?_append_left (by omega)]; exact e1)
          exact order1_any b o Bn Bf q j N c' g a1 z ka kb kc kd V ((hbn.below hbV).v (k := 0) rfl) ((hBf.below hV).v (k := 0) rfl) (below_cell hbV _ _ n2) (by omega) hlt (hy.below hbV) (hz.below hbV))
        have f0 := hBf.v (k := 0) rfl
        have b0 := (hbn.below hb5).v (k := 0) rfl
        have HSE := hid hSE; have HOR := hid hor; have HRES := hid hres; have HA1 := hid hA1; have HB5 := hid hb5; have HBn := hid hbn; have HBf := hid hBf; have HLW := hid hlw
        have HPL := hid hpl; have HBFE := hid hBfe
        have hj0 : (0 : Int) ≤ (j : Int) := by omega
        have hjn : (j : Int) < (N : Int) := by omega
        clear hSE hor hres hA1 hb5 hbn hBf hpl hget hksl hz n2 hNN hsrt hP hlw
        go_wp2_with fail
        clear hW5
        refine HSE.out.mono ?_
        rintro e w6 ⟨t, ht, rfl, ht1, ht2, hb6⟩
        have hb56 : Below wr.heap.size wr w6 := HB5.out.trans (hb6.mono HB5.out.size)
        obtain ⟨A11, A12, rfl, h11, h12, h13⟩ := split_at (A := A1) (z := z) (t := t) (by rw [HA1.out]; exact ht) (fun q a hq e => by
          have := ht1 q hq
          rw [HPq.out q a e] at this
          have := of_decide_eq_false this
          omega) (fun q a hq e => by
          have := ht2 q hq (by have := (List.getElem?_eq_some_iff.1 e).1; have := HA1.out; omega)
          rw [HPq.out q a e] at this
          exact of_decide_eq_true this)
        have hr6 := HRES.out.below hb56
        rw [List.append_assoc] at hr6
        have hl6 := Res.low (HB.out.trans (HBW.out.mono HB.out.size)) HR0.out.nod HR0.out.wk hr6
        have hv6 : vs'.length = vs.length + lo.length := by have := congrArg List.length hr6.list; simpa using this
        have hcost := HOR.out.cost
        have hsz : sizes (A11 ++ (A12 ++ z :: R1)) ≤ 1000000 := by
          have h1 := sizes_perm HOR.out.perm
          rw [List.append_assoc] at h1
          rw [h1]; exact HN.out
        have hj12 : (A11.length : Int) + (A12.length : Int) = (j : Int) := by have := HA1.out; rw [List.length_append] at this; omega
        have hMV := move_any w0 S n cap B b o L X' A' x A11 A12 R1 z _ c' ks' cur' ps vs' pv' sv' bv' w6 HS.out hl6 hr6.nod hr6.wk HG.out hsz HPS.out (by have := HVS.out; have := HNL.out; have := HA1.out; omega)
        rw [hj12, h11] at hMV
        have fa := (HBf.out.below hb6).v (k := 0) rfl
        have fb := (HBn.out.below hb56).v (k := 0) rfl
        have HMV := hid hMV; have HR6 := hid hr6; have H12 := hid h12; have H13 := hid h13; have H11 := hid h11; have HB56 := hid hb56
        clear hMV hr6 h12 h13 h11 hb56 hb6 ht1 ht2 hl6 hv6 hcost hsz f0 b0 hj12 HSE
        go_wp2_with fail
        refine HMV.out.mono ?_
        rintro e w7 ⟨⟨v, rfl⟩, lm, hmv, A'', X'', a2, c2, ks2, cur2, vs2, pv2, sv2, bv2, hr7⟩
        have hr := HR6.out.trans hr7
        have HNEW : Hid (OrSo (sgOf L) x l W0 X w0.heap.size b o A cur B S n cap ps (vs.map Wv.b) (j + 1) w7) := hid (by
          refine ⟨A11 ++ z :: A12, R1, lo ++ lm, ?_, HOR.out.step H12.out H13.out hmv, A'', X'', a2, c2, ks2, cur2, vs2, pv2, sv2, bv2, ?_⟩
          · have := HA1.out
            simp only [List.length_append, List.length_cons] at this ⊢
            omega
          · have h1 := hr
            rw [HR6.out.list] at h1
            rw [List.map_append, ← List.append_assoc, show (A11 ++ z :: A12) ++ R1 = A11 ++ (z :: A12 ++ R1) by simp]
            exact h1)
        have HBN7 : Hid (Box w7 Bn 60 #[.pointer (some ⟨b, o, none⟩)]) := hid (by
          have h1 := HBn.out.below HB56.out
          refine (hr7.fr.same Bn h1.lt (fun h => ?_)).trans h1
          have hlt := HBN.out.lt
          rcases h with h | h | h
          · rcases HRES.out.newA Bn h with h2 | h2
            · exact HBX.out.1 h2
            · omega
          · rcases HRES.out.newX Bn h with h2 | h2
            · exact HBX.out.2.1 h2
            · omega
          · exact HBX.out.2.2 h)
        clear hr hr7 hmv fa fb HMV
        go_wp2_with fail
        go_roundw
        case rel => exact ⟨j + 1, by omega, by go_num, HNEW.out, HBN7.out⟩
        case measure => simp [intOf]; omega
      · have e : j = N := by omega
        subst e
        have hR : R = [] := List.length_eq_zero_iff.1 (by have := HNL.out; omega)
        subst hR
        have HOR := hid hor; have HRES := hid hres
        clear hor hres hpl hbn
        go_wp2_with fail
        refine bodyPost_ret (results_none rfl _ _ _) rfl ?_
        refine ⟨⟨_, rfl⟩, A1, lo, HOR.out.fin HG.out, A', X', a', c', ks', cur', vs', pv', sv', bv', ?_⟩
        have := HR0.out.trans HRES.out
        rw [List.append_nil] at this
        exact this
end Go.Proofs.YtokbgbbkopmngaaGreat
/- One of a node's arguments, changed in place by the walk. -/
namespace Go.Proofs.YtokbgbbkopmngaaGreat
open Go.RowKit Go.Deep

theorem nod_down {W : World} {X : Bl} {N0 b o : Nat} {A : Bl} {x : ByteArray × Int} {l : List Tn} {a : Option Addr} {c : Nat} {ks : List Kv} {cur : Array Value} (h : Nod W X N0 b o A x l a c ks cur) {i : Nat} {y : Tn} (hy : l[i]? = some y) :
    ∃ (g : Nat) (A1 : Bl) (cu : Array Value) (ka : Option Addr) (kc : Nat) (vs1 : List Kv), a = some ⟨g, 0, none⟩ ∧ i < ks.length ∧ c ≤ maxLen ∧ ks.length ≤ c ∧ Nod W X N0 g (i * 3) A1 y.1 (kidsL y.2) ka kc vs1 cu ∧
      ∀ (B : Nat) (S : Option Addr) (n cap : Nat) (ps : List Int) (x' : ByteArray × Int) (l' : List Tn) (ls' : List Bs) (A' X' : Bl) (a' : Option Addr) (c' : Nat) (ks' : List Kv) (cur' : Array Value) (vs : List Wv) (pv sv bv : Value) (W2 : World), Res W X N0 g (i * 3) A1 cu B S n cap ps x' l' ls' A' X' a' c' ks' cur' vs pv sv bv W2 →
        ∃ A2 ks2, Res W X N0 b o A cur B S n cap ps x (l.set i (nd x' l')) ls' A2 X' (some ⟨g, 0, none⟩) c ks2 cur vs pv sv bv W2 := by
  have hkk := h.kids
  rw [← hkk, List.getElem?_map] at hy
  obtain ⟨kv, hkv, hkt⟩ : ∃ kv, ks[i]? = some kv ∧ kv.tn = y := by
    cases hq : ks[i]? with
    | none => rw [hq] at hy; cases hy
    | some kv => rw [hq] at hy; exact ⟨kv, rfl, Option.some.inj hy⟩
  subst hkt
  have hi : i < ks.length := (List.getElem?_eq_some_iff.1 hkv).1
  obtain ⟨g, e, hAg, hR, hG⟩ : ∃ g, a = some ⟨g, 0, none⟩ ∧ A g ∧ RowV W g c ks ∧ GL FulE W ks (fun q => A q ∧ q ≠ g) := by
    rcases h.pl.row.row with ⟨e, _⟩ | h
    · rw [e] at hi; simp at hi
    · exact h
  subst e
  obtain ⟨A1, A2, a1, a2, hyF, g2⟩ := gl_pick hG hkv
  obtain ⟨vs1, k1, k2⟩ := FulTm.open hyF
  have hvl := kv_len k1
  obtain ⟨cu, r1, r2, r3⟩ := hR.row
  obtain ⟨y0, y1, y2⟩ := kv_cells hkv
  have hc : ∀ j v, (kvCells ks)[j]? = some v → cu[j]? = some v := fun j v hv => by
    rw [← r3, List.getElem?_take] at hv
    split at hv
    · rw [Array.getElem?_toList] at hv; exact hv
    · cases hv
  have hgA1 : ¬ A1 g := fun hh => (a1 g hh).2 rfl
  have hAb : ¬ A b := h.pl.out
  have hbg : b ≠ g := fun e => hAb (e ▸ hAg)
  refine ⟨g, A1, cu, kv.a, kv.c, vs1, rfl, hi, hR.small, hR.fits, ⟨⟨r1, hc _ _ y0, hc _ _ y1, by rw [hvl]; exact hc _ _ y2, k2, hgA1, hyF.sizes.name⟩, k1, fun q hq => h.low q (a1 q hq).1, fun q hq => h.apart q (a1 q hq).1, h.apart g hAg, (h.low g hAg).1⟩, ?_⟩
  intro B S n cap ps x' l' ls' A' X' a' c' ks' cur' vs pv sv bv W2 hU
  have z3 := hU.nod.pl
  have hs := hU.fr.low.size
  have hsame : ∀ q, q < W.heap.size → ¬ A1 q → ¬ X q → q ≠ g → W2.heap[q]? = W.heap[q]? := fun q hq h1 h2 h3 => hU.fr.same q hq (fun h => by
    rcases h with h | h | h
    · exact h1 h
    · exact h2 h
    · exact h3 h)
  have hk' : ks'.map Kv.tn = kidsL (mkF l') := by rw [kids_mk]; exact hU.nod.kids
  have hkv' : FulE W2 A' ⟨x', mkF l', a', c'⟩ := z3.row.tmL z3.nm hk'
  have hk'l : ks'.length = lenF (mkF l') := kv_len hk'
  have hA'g : ¬ A' g := z3.out
  have hrow : RowV W2 g c (ks.set i ⟨x', mkF l', a', c'⟩) := by
    refine ⟨⟨cur', z3.blk, hU.size.trans r2, ?_⟩, by rw [List.length_set]; exact hR.fits, hR.small⟩
    rw [List.length_set]
    apply List.ext_getElem?
    intro j
    by_cases hj : j < ks.length * 3
    · rw [List.getElem?_take_of_lt hj, Array.getElem?_toList]
      by_cases hin : j < i * 3 ∨ i * 3 + 3 ≤ j
      · rw [hU.same j hin]
        obtain ⟨v, hv⟩ := kvCells_get (ks := ks) (j := j) hj
        rw [hc j v hv]
        have : (kvCells (ks.set i ⟨x', mkF l', a', c'⟩))[j]? = (kvCells ks)[j]? := by
          have e : ∀ m, m ≠ i → (ks.set i ⟨x', mkF l', a', c'⟩)[m]? = ks[m]? := fun m hm => List.getElem?_set_ne (by omega)
          have hm : j / 3 ≠ i := by omega
          have hjm : j / 3 < ks.length := by omega
          obtain ⟨kv2, hkv2⟩ : ∃ kv2, ks[j / 3]? = some kv2 := ⟨_, List.getElem?_eq_getElem hjm⟩
          obtain ⟨p0, p1, p2⟩ := kv_cells hkv2
          obtain ⟨q0, q1, q2⟩ := kv_cells ((e _ hm).trans hkv2)
          have hj3 : j = j / 3 * 3 ∨ j = j / 3 * 3 + 1 ∨ j = j / 3 * 3 + 2 := by omega
          rcases hj3 with e3 | e3 | e3 <;> rw [e3]
          · rw [q0, p0]
          · rw [q1, p1]
          · rw [q2, p2]
        rw [this, hv]
      · have hset : (ks.set i ⟨x', mkF l', a', c'⟩)[i]? = some ⟨x', mkF l', a', c'⟩ := List.getElem?_set_self hi
        obtain ⟨q0, q1, q2⟩ := kv_cells hset
        have hj3 : j = i * 3 ∨ j = i * 3 + 1 ∨ j = i * 3 + 2 := by omega
        rcases hj3 with e3 | e3 | e3 <;> rw [e3]
        · rw [q0, z3.c0]
        · rw [q1, z3.c1]
        · rw [q2, z3.c2, hk'l]
    · rw [List.getElem?_eq_none (by rw [List.length_take]; omega), List.getElem?_eq_none (by rw [kvCells_len, List.length_set]; omega)]
  have hGL : GL FulE W2 (ks.set i ⟨x', mkF l', a', c'⟩) (fun q => A' q ∨ A2 q) := by
    have hsp : List.Perm (ks.set i ⟨x', mkF l', a', c'⟩) (⟨x', mkF l', a', c'⟩ :: (ks.take i ++ ks.drop (i + 1))) := by
      have := pick_perm (ks := ks.set i ⟨x', mkF l', a', c'⟩) (i := i) (List.getElem?_set_self hi)
      rw [List.take_set_of_le (Nat.le_refl _), List.drop_set_of_lt (by omega)] at this
      exact this
    refine GL.perm hsp.symm (GL.cons hkv' (g2.keep fulE (fun q hq hlt => hsame q hlt (fun h1 => (a2 q hq).2 h1) (h.apart q (a2 q hq).1.1) (a2 q hq).1.2)) (fun q hq h2 => ?_))
    rcases hU.newA q hq with h1 | h1
    · exact (a2 q h2).2 h1
    · have := (h.low q (a2 q h2).1.1).2; omega
  refine ⟨fun q => (A' q ∨ A2 q) ∨ q = g, ks.set i ⟨x', mkF l', a', c'⟩, hU.fr.mono (fun q hq => ?_), fun q hq => ?_, hU.newX, rfl, fun _ _ => rfl, ⟨⟨?_, h.pl.c0, h.pl.c1, by rw [List.length_set]; exact h.pl.c2, ⟨by rw [List.length_set]; exact h.pl.row.few, .inr ⟨g, rfl, .inr rfl, hrow, hGL.mono (fun q hq => ⟨.inl hq, ?_⟩)⟩⟩, ?_, h.pl.nm⟩, ?_, fun q hq => ?_, fun q hq hx => ?_, fun hx => ?_, h.lo⟩, hU.wk, hU.list⟩
  · rcases hq with h1 | h1 | h1
    · exact .inl (a1 q h1).1
    · exact .inr (.inl h1)
    · exact .inl (h1 ▸ hAg)
  · rcases hq with (h1 | h1) | h1
    · exact (hU.newA q h1).imp (fun h2 => (a1 q h2).1) id
    · exact .inl (a2 q h1).1.1
    · exact .inl (h1 ▸ hAg)
  · exact (hsame b h.pl.lt (fun h1 => hAb (a1 b h1).1) h.out hbg).trans h.pl.blk
  · rcases hq with hq | hq
    · exact fun e => hA'g (e ▸ hq)
    · exact (a2 q hq).1.2
  · rintro ((hq | hq) | hq)
    · rcases hU.newA b hq with h1 | h1
      · exact hAb (a1 b h1).1
      · have := h.pl.lt; omega
    · exact hAb (a2 b hq).1.1
    · exact hbg hq
  · rw [List.map_set, hkk]
    rfl
  · rcases hq with (h1 | h1) | h1
    · exact hU.nod.low q h1
    · have := h.low q (a2 q h1).1.1; exact ⟨this.1, by omega⟩
    · have := h.low g hAg; exact ⟨h1 ▸ this.1, by omega⟩
  · have hold : A q → q < W.heap.size → False := fun h1 h2 => by
      rcases hU.newX q hx with h3 | h3
      · exact h.apart q h1 h3
      · omega
    rcases hq with (h1 | h1) | h1
    · exact hU.nod.apart q h1 hx
    · exact hold (a2 q h1).1.1 (h.low q (a2 q h1).1.1).2
    · subst h1; exact hold hAg (h.low q hAg).2
  · rcases hU.newX b hx with h3 | h3
    · exact h.out h3
    · have := h.pl.lt; omega
end Go.Proofs.YtokbgbbkopmngaaGreat
/- The walk's settleArg. -/
namespace Go.Proofs.YtokbgbbkopmngaaGreat
open Go.RowKit Go.Deep

/-- What settle leaves. -/
def SetEnd (S' : Sg) (ar : Int → Nat) (t : Tn) (W : World) (X : Bl) (N0 b o : Nat) (A : Bl) (cur : Array Value) (B : Nat) (S : Option Addr) (n cap : Nat) (ps : List Int) (ls : List Bs) (e : Ending) (W' : World) : Prop :=
  ∃ t' l1 ok, e = .returned (.bool ok) ∧ Stl S' ar t t' l1 ok ∧ ResE W X N0 b o A cur B S n cap ps t'.1 (kidsL t'.2) (ls ++ l1.map (pfx ps)) W'
def SetOk (k : Nat) : Prop := ∀ (w0 : World) (S : Option Addr) (n cap B b o : Nat) (L : List Sym) (X A : Bl) (x : ByteArray × Int) (l : List Tn) (a : Option Addr) (c : Nat) (ks : List Kv) (cur : Array Value) (ps : List Int) (vs : List Wv) (pv sv bv : Value) (W : World),
  SigAt w0 S n L → Below w0.heap.size w0 W → Nod W X w0.heap.size b o A x l a c ks cur → Wk W X w0.heap.size B S n cap ps vs pv sv bv → (sgOf L).Ok (arAt L) → (∀ f u, (sgOf L).unit f = some u → (sgOf L).joins f = true) → RightT (sgOf L) (arAt L) (nd x l) → Cln (nd x l).2 →
  sizeT (nd x l) ≤ k → sizeT (nd x l) ≤ 200 → ps.length + sizeT (nd x l) ≤ 900000 → vs.length + 4 * (sizeT (nd x l) * sizeT (nd x l)) ≤ 900000 →
  Calls Tryz.prog 29 #[.pointer (some ⟨B, 0, none⟩), .pointer (some ⟨b, o, none⟩)] W (SetEnd (sgOf L) (arAt L) (nd x l) W X w0.heap.size b o A cur B S n cap ps (vs.map Wv.b))
set_option maxRecDepth 100000 in
theorem app_one_int {w : World} {N0 : Nat} {pv : Value} {ps : List Int} (k : Int) (h : w.ownsRow N0 3 1 pv ps.length (intsV ps)) (hn : ps.length ≤ 1000000) (hB : N0 ≤ w.heap.size) :
    ∃ g cp w', (Builtin.append_ #[45, 45] 45 #[pv, .slice (some ⟨w.heap.size, 0, none⟩) 1 1]).run Tryz.prog (w.alloc (.cells #[.int .i64 k] 3)) = .ok (.slice (some ⟨g, 0, none⟩) (ps.length + 1) cp) w' ∧
      w'.ownsRow N0 3 1 (.slice (some ⟨g, 0, none⟩) (ps.length + 1) cp) (ps.length + 1) (intsV ps ++ [.int .i64 k]) ∧ Fr (fun q => pv.ownBlock = some q) w w' ∧ (pv.ownBlock = some g ∨ w.heap.size ≤ g) := by
  obtain ⟨i0, hi0, hz0, hz1, hz2⟩ := info_parts Tryz.info3
  have b0 := alloc_below0 w (.cells #[.int .i64 k] 3)
  have hE : Box (w.alloc (.cells #[.int .i64 k] 3)) w.heap.size 3 #[.int .i64 k] := Box.new _ _ _
  obtain ⟨v', w1, hr1, hA1, hG1, _, hat⟩ := run_append_own_at (P := Tryz.prog) (w.alloc (.cells #[.int .i64 k] 3)) N0 45 45 3 i0 _ 1 8 Tryz.underlying45 hi0 hz0 hz1 hz2 rfl (by decide) pv ps.length (intsV ps) (owns_by h (fun q e => b0.block q (owns_lt h e))) ⟨w.heap.size, 0, none⟩ 1 1 [.int .i64 k] rfl
    (World.news_of_block hE) (fun u hu => by rw [List.mem_singleton] at hu; subst hu; rfl) (by unfold maxLen; omega) (by omega) (Nat.le_trans hB b0.size)
  rcases hA1.2 with ⟨_, h1⟩ | ⟨g, cp, cur, rfl, _, _, _, _, _, _⟩
  · omega
  · refine ⟨g, cp, w1, hr1, hA1, (Fr.of_below b0).trans ⟨⟨hG1.os, hG1.tape, hG1.output, hG1.size, fun _ hk => absurd hk (Nat.not_lt_zero _)⟩, fun q hq hn2 => hG1.block q hq (fun e => hn2 e.symm)⟩, ?_⟩
    rcases hat with e | e
    · left; rw [← e]; rfl
    · right
      have e : some g = some (w.alloc (.cells #[.int .i64 k] 3)).heap.size := e
      have := Option.some.inj e
      rw [World.size_alloc] at this
      omega
/-- Another path. -/
theorem Wk.turn {W W1 : World} {X X1 : Bl} {N0 B : Nat} {S : Option Addr} {n cap : Nat} {ps qs : List Int} {vs : List Wv} {pv sv bv qv : Value} (h : Wk W X N0 B S n cap ps vs pv sv bv) (hq : W1.ownsRow N0 3 1 qv qs.length (intsV qs)) (hn : ∀ g, qv.ownBlock = some g → pv.ownBlock = some g ∨ W.heap.size ≤ g)
    (hB : Box W1 B 52 #[.slice S n cap, qv, sv, bv]) (hF : Fr (fun q => q = B ∨ pv.ownBlock = some q) W W1) (hX : ∀ q, X q → X1 q) (hXn : ∀ q, W.heap.size ≤ q → q < W1.heap.size → X1 q) (hl : ∀ q, X1 q → N0 ≤ q ∧ q < W1.heap.size) : Wk W1 X1 N0 B S n cap qs vs qv sv bv := by
  have hR : ∀ q, rowsB B qv sv bv q → rowsB B pv sv bv q ∨ W.heap.size ≤ q := fun q hq => by
    rcases hq with hq | hq | hq | hq
    · exact .inl (.inl hq)
    · rcases hn q hq with h1 | h1
      · exact .inl (.inr (.inl h1))
      · exact .inr h1
    · exact .inl (.inr (.inr (.inl hq)))
    · exact .inl (.inr (.inr (.inr hq)))
  refine ⟨hB, hX _ h.inX, hq, owns_by h.steps (fun q e => hF.same q (owns_lt h.steps e) ?_), owns_by h.backs (fun q e => hF.same q (owns_lt h.backs e) ?_), fun g hg => ?_, fun g hg => hX g (h.sX g hg), fun g hg => hX g (h.bX g hg), h.ne, fun x hx => (h.all x hx).turn hX (fun q hq => (h.low q hq).2) (fun q hq hr => hF.same q (h.low q hq).2 ?_) hR, hl⟩
  · rintro (e2 | e2)
    · exact h.s_ne.1 q e e2
    · exact (h.p_ne e2).2.1 e
  · rintro (e2 | e2)
    · exact h.s_ne.2 q e e2
    · exact (h.p_ne e2).2.2 e
  · rcases hn g hg with h1 | h1
    · exact hX g (h.pX g h1)
    · exact hXn g h1 (owns_lt hq hg)
  · rintro (e2 | e2)
    · exact hr (.inl e2)
    · exact hr (.inr (.inl e2))
theorem pfx_pre (ps : List Int) (i : Nat) (l : List Bs) : l.map (pfx (ps ++ [(i : Int)])) = (l.map (pre i)).map (pfx ps) := by
  rw [List.map_map]
  refine List.map_congr_left (fun b _ => ?_)
  simp [pfx, pre]
/-- What settleArg leaves. -/
def ArgEnd (S' : Sg) (ar : Int → Nat) (x : ByteArray × Int) (l : List Tn) (i : Nat) (y : Tn) (W : World) (X : Bl) (N0 b o : Nat) (A : Bl) (cur : Array Value) (B : Nat) (S : Option Addr) (n cap : Nat) (ps : List Int) (ls : List Bs) (e : Ending) (W' : World) : Prop :=
  ∃ y' lk ok, e = .returned (.bool ok) ∧ Stl S' ar y y' lk ok ∧ ResE W X N0 b o A cur B S n cap ps x (l.set i y') (ls ++ (lk.map (pre i)).map (pfx ps)) W'
/-- The record alone has turned. -/
theorem Nod.recd {W W1 : World} {X X1 : Bl} {N0 b o : Nat} {A : Bl} {x : ByteArray × Int} {l : List Tn} {a : Option Addr} {c : Nat} {ks : List Kv} {cur : Array Value} {P : Bl} (h : Nod W X N0 b o A x l a c ks cur) (hF : Fr P W W1) (hP : ∀ q, P q → X q) (hXX : ∀ q, X1 q → X q ∨ W.heap.size ≤ q) : Nod W1 X1 N0 b o A x l a c ks cur := by
  refine ⟨h.pl.keep (hF.same b h.pl.lt (fun hp => h.out (hP b hp))) (fun k hk hlt => hF.same k hlt (fun hp => h.apart k hk (hP k hp))), h.kids, fun q hq => ⟨(h.low q hq).1, Nat.lt_of_lt_of_le (h.low q hq).2 hF.low.size⟩, fun q hq hx => ?_, fun hx => ?_, h.lo⟩
  · rcases hXX q hx with h1 | h1
    · exact h.apart q hq h1
    · have := (h.low q hq).2; omega
  · rcases hXX b hx with h1 | h1
    · exact h.out h1
    · have := h.pl.lt; omega

set_option maxRecDepth 100000 in
set_option maxHeartbeats 4000000 in
theorem settleArg_any {k : Nat} (ih : SetOk k) (w0 : World) (S : Option Addr) (n cap B b o : Nat) (L : List Sym) (X A : Bl) (x : ByteArray × Int) (l : List Tn) (a : Option Addr) (c : Nat) (ks : List Kv) (cur : Array Value) (ps : List Int) (vs : List Wv) (pv sv bv : Value) (W : World) (i : Nat) (y : Tn)
    (hS : SigAt w0 S n L) (hb : Below w0.heap.size w0 W) (hN : Nod W X w0.heap.size b o A x l a c ks cur) (hK : Wk W X w0.heap.size B S n cap ps vs pv sv bv) (hO : (sgOf L).Ok (arAt L)) (hUJ : ∀ f u, (sgOf L).unit f = some u → (sgOf L).joins f = true) (hy : l[i]? = some y) (hr : RightT (sgOf L) (arAt L) y) (hc : Cln y.2)
    (hk : sizeT y ≤ k) (hk2 : sizeT y ≤ 200) (hps : ps.length + 1 + sizeT y ≤ 900000) (hvs : vs.length + 4 * (sizeT y * sizeT y) ≤ 900000) :
    Calls Tryz.prog 45 #[.pointer (some ⟨B, 0, none⟩), .pointer (some ⟨b, o, none⟩), .int .i64 (i : Int)] W (ArgEnd (sgOf L) (arAt L) x l i y W X w0.heap.size b o A cur B S n cap ps (vs.map Wv.b)) := by
  obtain ⟨g, cp, w', hr1, hA1, hF1, hg1⟩ := app_one_int (i : Int) hK.path (by omega) hb.size
  -- the path grown
  obtain ⟨W1, hW1⟩ : ∃ W1, w'.setCell ⟨B, 1, none⟩ (.slice (some ⟨g, 0, none⟩) (ps.length + 1) cp) = W1 := ⟨_, rfl⟩
  have hBp : pv.ownBlock ≠ some B := fun e => (hK.p_ne e).1 rfl
  have hB' : Box w' B 52 #[.slice S n cap, pv, sv, bv] := (hF1.same B hK.box.lt hBp).trans hK.box
  have hB1 : Box W1 B 52 #[.slice S n cap, .slice (some ⟨g, 0, none⟩) (ps.length + 1) cp, sv, bv] := by rw [← hW1]; exact hB'.set 1 _
  have hs1 : W1.heap.size = w'.heap.size := by rw [← hW1]; simp
  have hgB : g ≠ B := by
    obtain ⟨c1, e1⟩ := owns_type hA1 (g := g) rfl
    exact type_ne e1 (show w'.heap[B]? = _ from hB') (by decide)
  have hA1' : W1.ownsRow w0.heap.size 3 1 (.slice (some ⟨g, 0, none⟩) (ps.length + 1) cp) (ps.length + 1) (intsV (ps ++ [(i : Int)])) := by
    have := owns_by hA1 (w' := W1) (fun q e => by have e : some g = some q := e; cases e; rw [← hW1]; exact set_far hgB _)
    rw [intsV_app]; exact this
  have hFW1 : Fr (fun q => q = B ∨ pv.ownBlock = some q) W W1 := by
    refine (hF1.mono (fun _ h => .inr h)).trans ⟨?_, fun q _ hn => ?_⟩
    · rw [← hW1]; exact (Below.refl 0 w').setCell (p := ⟨B, 1, none⟩) (Nat.zero_le _) _
    · rw [← hW1]; exact set_far (fun e => hn (.inl e)) _
  have hsW := hFW1.low.size
  have hPX : ∀ q, (q = B ∨ pv.ownBlock = some q) → X q := fun q hq => by
    rcases hq with e | e
    · rw [e]; exact hK.inX
    · exact hK.pX q e
  have hK1 : Wk W1 (fun q => X q ∨ (W.heap.size ≤ q ∧ q < W1.heap.size)) w0.heap.size B S n cap (ps ++ [(i : Int)]) vs (.slice (some ⟨g, 0, none⟩) (ps.length + 1) cp) sv bv := by
    refine Wk.turn hK (by rw [List.length_append]; exact hA1') (fun q e => by have e : some g = some q := e; cases e; exact hg1) hB1 hFW1 (fun q h => .inl h) (fun q h1 h2 => .inr ⟨h1, h2⟩) (fun q h => ?_)
    rcases h with h | h
    · exact ⟨(hK.low q h).1, Nat.lt_of_lt_of_le (hK.low q h).2 hsW⟩
    · exact ⟨Nat.le_trans hb.size h.1, h.2⟩
  have hN1 : Nod W1 (fun q => X q ∨ (W.heap.size ≤ q ∧ q < W1.heap.size)) w0.heap.size b o A x l a c ks cur := Nod.recd hN hFW1 hPX (fun q h => h.imp id (fun h => h.1))
  have hR1 : Res W X w0.heap.size b o A cur B S n cap (ps ++ [(i : Int)]) x l (vs.map Wv.b) A (fun q => X q ∨ (W.heap.size ≤ q ∧ q < W1.heap.size)) a c ks cur vs (.slice (some ⟨g, 0, none⟩) (ps.length + 1) cp) sv bv W1 :=
    ⟨hFW1.mono (fun q h => .inr (.inl (hPX q h))), fun _ h => .inl h, fun q h => h.imp id (fun h => h.1), rfl, fun _ _ => rfl, hN1, hK1, rfl⟩
  have hb1 : Below w0.heap.size w0 W1 := hb.trans (hFW1.below (fun q h => (hK.low q (hPX q h)).1) hb.size)
  obtain ⟨g2, A1, cu, ka, kc, vs1, rfl, hil, hcm, hkc, hNk, hclose⟩ := nod_down hN1 hy
  have hnd : nd y.1 (kidsL y.2) = y := nd_self hc
  have hset := ih w0 S n cap B g2 (i * 3) L _ A1 y.1 (kidsL y.2) ka kc vs1 cu (ps ++ [(i : Int)]) vs _ sv bv W1 hS hb1 hNk hK1 hO hUJ (by rw [hnd]; exact hr) (by rw [hnd]; exact hc) (by rw [hnd]; exact hk) (by rw [hnd]; exact hk2) (by rw [hnd, List.length_append]; show ps.length + 1 + _ ≤ _; exact hps) (by rw [hnd]; exact hvs)
  rw [hnd] at hset
  have n2 := hN1.pl.nd.list
  have p1 := hK.box.v (k := 1) rfl
  have q1 := hB'.v (k := 1) rfl; have qf1 := hB'.f 1
  have hi0 : (0 : Int) ≤ (i : Int) := by omega
  have hin : (i : Int) < (ks.length : Int) := by omega
  unfold maxLen at hcm
  rw [← hW1] at n2
  have hpsl : ps.length ≤ 900000 := by omega
  have HW1 := hid hW1; have HSET := hid hset; have HCL := hid hclose; have HR1 := hid hR1; have HK := hid hK; have HB := hid hb; have HNo := hid hN; have HOK := hid hO; have HUJ := hid hUJ; have HRY := hid hr; have HCY := hid hc
  clear hset hclose hR1 hK hb hN hA1 hF1 hg1 hBp hB' hB1 hs1 hgB hA1' hFW1 hsW hPX hK1 hN1 hb1 hNk hnd hS hO hUJ hy hr hc hk hk2 hps hvs hW1 ih
  go_enter Tryz.func45, Tryz.ntmps45
  go_wp2_with (first
    | (at_builtin; refine Lib.wpList_append_run _ rfl _ _ _ _ rfl _ _ rfl rfl _ _ hr1 ?_; clear hr1)
    | (go_at_call 29; rw [HW1.out]; refine HSET.out.mono ?_; rintro e w2 ⟨y', lk, ok, rfl, hst, hres⟩; have HST := hid hst; have HRE := hid hres; clear hst hres)
    | fail)
  obtain ⟨A2, X2, a2, c2, ks2, cur2, vs2, pv2, sv2, bv2, hr⟩ := HRE.out
  obtain ⟨pa2, pc2, rfl, hpI, hpl, hpm⟩ := hr.wk.path_at
  have hpl2 : (ps ++ [(i : Int)]).length = ps.length + 1 := by rw [List.length_append]; rfl
  obtain ⟨g3, rfl⟩ : ∃ g3, pa2 = some ⟨g3, 0, none⟩ := by
    rcases hr.wk.path.2 with ⟨_, h1⟩ | ⟨g3, _, _, e, _⟩
    · omega
    · cases e; exact ⟨g3, rfl⟩
  obtain ⟨N1, hN1⟩ : ∃ N1, ps.length = N1 := ⟨_, rfl⟩
  have q2 : w2.drew.cell? ⟨B, 1, none⟩ = some (.slice (some ⟨g3, 0, none⟩) (N1 + 1) pc2) := by
    have := hr.wk.box.v (k := 1) rfl
    rw [hpl2, hN1] at this
    exact this
  have qf2 : w2.drew.frozen? ⟨B, 1, none⟩ = false := hr.wk.box.f 1
  have hpc : N1 + 1 ≤ pc2 := by omega
  unfold maxLen at hpm
  have hN1l : N1 ≤ 900000 := by omega
  have HR := hid hr; have HN1 := hid hN1; have HPL := hid hpl2
  clear hr hpI hpl hpl2 hN1 p1 q1 qf1 n2 HRE hpsl
  refine region_mid (S := fun V => V.cell? ⟨B, 1, none⟩ = some (.slice (some ⟨g3, 0, none⟩) (N1 + 1) pc2)) [4, 8, 9, 10, 11] (by kernel_rfl) q2 ?_
  intro hS
  refine plainM (i := 0) (v := (.pointer (some ⟨B, 0, none⟩))) rfl (by kernel_rfl) (by kernel_rfl) (by kernel_rfl) (by kernel_rfl) (fun _ _ _ h => h) (Or.inl ⟨by rfl, fun w' _ => ?_⟩) ?_
  · go_simp
  try simp only [Act.put, List.getElem_toArray, List.getElem_cons_zero, List.setIfInBounds_toArray, List.set_cons_zero, List.set_cons_succ]
  refine plainM (i := 1) (v := (.pointer (some ⟨B, 0, none⟩))) rfl (by kernel_rfl) (by kernel_rfl) (by kernel_rfl) (by kernel_rfl) (fun _ _ _ h => h) (Or.inl ⟨by rfl, fun w' _ => ?_⟩) ?_
  · go_simp
  try simp only [Act.put, List.getElem_toArray, List.getElem_cons_zero, List.getElem_cons_succ, List.setIfInBounds_toArray, List.set_cons_zero, List.set_cons_succ]
  refine plainM (i := 2) (v := (.pointer (some ⟨B, 0, none⟩))) rfl (by kernel_rfl) (by kernel_rfl) (by kernel_rfl) (by kernel_rfl) (fun _ _ _ h => h) (Or.inl ⟨by rfl, fun w' _ => ?_⟩) ?_
  · go_simp
  try simp only [Act.put, List.getElem_toArray, List.getElem_cons_zero, List.getElem_cons_succ, List.setIfInBounds_toArray, List.set_cons_zero, List.set_cons_succ]
  refine plainM (i := 3) (v := (.pointer (some ⟨B, 1, none⟩))) rfl (by kernel_rfl) (by kernel_rfl) (by kernel_rfl) (by kernel_rfl) (fun _ _ _ h => h) (Or.inl ⟨by rfl, fun w' _ => ?_⟩) ?_
  · go_simp
  try simp only [Act.put, List.getElem_toArray, List.getElem_cons_zero, List.getElem_cons_succ, List.setIfInBounds_toArray, List.set_cons_zero, List.set_cons_succ]
  refine plainM (i := 5) (v := (.pointer (some ⟨B, 0, none⟩))) rfl (by kernel_rfl) (by kernel_rfl) (by kernel_rfl) (by kernel_rfl) (fun _ _ _ h => h) (Or.inl ⟨by rfl, fun w' _ => ?_⟩) ?_
  · go_simp
  try simp only [Act.put, List.getElem_toArray, List.getElem_cons_zero, List.getElem_cons_succ, List.setIfInBounds_toArray, List.set_cons_zero, List.set_cons_succ]
  refine plainM (i := 6) (v := (.pointer (some ⟨B, 0, none⟩))) rfl (by kernel_rfl) (by kernel_rfl) (by kernel_rfl) (by kernel_rfl) (fun _ _ _ h => h) (Or.inl ⟨by rfl, fun w' _ => ?_⟩) ?_
  · go_simp
  try simp only [Act.put, List.getElem_toArray, List.getElem_cons_zero, List.getElem_cons_succ, List.setIfInBounds_toArray, List.set_cons_zero, List.set_cons_succ]
  refine plainM (i := 7) (v := (.pointer (some ⟨B, 1, none⟩))) rfl (by kernel_rfl) (by kernel_rfl) (by kernel_rfl) (by kernel_rfl) (fun _ _ _ h => h) (Or.inl ⟨by rfl, fun w' _ => ?_⟩) ?_
  · go_simp
  try simp only [Act.put, List.getElem_toArray, List.getElem_cons_zero, List.getElem_cons_succ, List.setIfInBounds_toArray, List.set_cons_zero, List.set_cons_succ]
  refine takeM (i := 4) (v := (.slice (some ⟨g3, 0, none⟩) (N1 + 1) pc2)) rfl (by kernel_rfl) (by kernel_rfl) (by kernel_rfl) (by kernel_rfl) (fun _ _ _ h => h) (Or.inl ⟨by rfl, fun w' hw' => ?_⟩) hS ?_
  · have y0 := hw'; go_simp
  try simp only [Act.put, List.getElem_toArray, List.getElem_cons_zero, List.getElem_cons_succ, List.setIfInBounds_toArray, List.set_cons_zero, List.set_cons_succ]
  refine takeM (i := 8) (v := (.slice (some ⟨g3, 0, none⟩) (N1 + 1) pc2)) rfl (by kernel_rfl) (by kernel_rfl) (by kernel_rfl) (by kernel_rfl) (fun _ _ _ h => h) (Or.inl ⟨by rfl, fun w' hw' => ?_⟩) hS ?_
  · have y0 := hw'; go_simp
  try simp only [Act.put, List.getElem_toArray, List.getElem_cons_zero, List.getElem_cons_succ, List.setIfInBounds_toArray, List.set_cons_zero, List.set_cons_succ]
  refine takeM (i := 9) (v := (.int .i64 ((N1 : Int) + 1))) rfl (by kernel_rfl) (by kernel_rfl) (by kernel_rfl) (by kernel_rfl) (fun _ _ _ h => h) (Or.inl ⟨by rfl, fun w' hw' => ?_⟩) hS ?_
  · go_simp
  try simp only [Act.put, List.getElem_toArray, List.getElem_cons_zero, List.getElem_cons_succ, List.setIfInBounds_toArray, List.set_cons_zero, List.set_cons_succ]
  refine takeM (i := 10) (v := (.int .i64 (N1 : Int))) rfl (by kernel_rfl) (by kernel_rfl) (by kernel_rfl) (by kernel_rfl) (fun _ _ _ h => h) (Or.inl ⟨by rfl, fun w' hw' => ?_⟩) hS ?_
  · go_simp; exact IntWalk.i64_in _ (by constructor <;> omega)
  try simp only [Act.put, List.getElem_toArray, List.getElem_cons_zero, List.getElem_cons_succ, List.setIfInBounds_toArray, List.set_cons_zero, List.set_cons_succ]
  refine takeM (i := 11) (v := (.slice (some ⟨g3, 0, none⟩) N1 pc2)) rfl (by kernel_rfl) (by kernel_rfl) (by kernel_rfl) (by kernel_rfl) (fun _ _ _ h => h) (Or.inl ⟨by rfl, fun w' hw' => ?_⟩) hS ?_
  · go_simp; intro h; omega
  try simp only [Act.put, List.getElem_toArray, List.getElem_cons_zero, List.getElem_cons_succ, List.setIfInBounds_toArray, List.set_cons_zero, List.set_cons_succ]
  refine plainM (i := 12) (v := (.pointer (some ⟨B, 0, none⟩))) rfl (by kernel_rfl) (by kernel_rfl) (by kernel_rfl) (by kernel_rfl) (fun _ _ _ h => h) (Or.inl ⟨by rfl, fun w' _ => ?_⟩) ?_
  · go_simp
  try simp only [Act.put, List.getElem_toArray, List.getElem_cons_zero, List.getElem_cons_succ, List.setIfInBounds_toArray, List.set_cons_zero, List.set_cons_succ]
  refine plainM (i := 13) (v := (.pointer (some ⟨B, 1, none⟩))) rfl (by kernel_rfl) (by kernel_rfl) (by kernel_rfl) (by kernel_rfl) (fun _ _ _ h => h) (Or.inl ⟨by rfl, fun w' _ => ?_⟩) ?_
  · go_simp
  try simp only [Act.put, List.getElem_toArray, List.getElem_cons_zero, List.getElem_cons_succ, List.setIfInBounds_toArray, List.set_cons_zero, List.set_cons_succ]
  refine readyM (rs := [14]) (by kernel_rfl) (by simp) ?_
  refine ReadyM.last rfl (by kernel_rfl) (fun K hK => ?_)
  go_simp
  refine hK.out _ _ ?_
  clear hK K
  try simp only [Act.put, List.getElem_toArray, List.getElem_cons_zero, List.getElem_cons_succ, List.setIfInBounds_toArray, List.set_cons_zero, List.set_cons_succ]
  refine doneM (by kernel_rfl) ?_ _
  clear hS
  go_wp2_with fail
  go_ret
  obtain ⟨A3, ks3, hnode⟩ := HCL.out B S n cap _ _ _ _ _ _ _ _ _ _ _ _ _ _ _ HR.out
  have hcy : Cln y'.2 := (Runs.ok HOK.out HUJ.out HRY.out HCY.out HST.out.runs).2.1
  rw [nd_self hcy] at hnode
  have hT := HR1.out.trans hnode
  obtain ⟨w3, hw3⟩ : ∃ w3, (w2.setCell ⟨B, 1, none⟩ (.slice (some ⟨g3, 0, none⟩) N1 pc2)).drew = w3 := ⟨_, rfl⟩
  have hF3 : Fr (fun q => q = B) w2 w3 := by
    rw [← hw3]
    exact (set1_fr _).trans (Fr.of_below (Below.refl _ _).drew)
  have hsz3 : w3.heap.size = w2.heap.size := by rw [← hw3]; simp
  have hB3 : Box w3 B 52 #[.slice S n cap, .slice (some ⟨g3, 0, none⟩) N1 pc2, sv2, bv2] := by
    rw [← hw3]
    have h0 : Box w2 B 52 #[.slice S n cap, .slice (some ⟨g3, 0, none⟩) (ps ++ [(i : Int)]).length pc2, sv2, bv2] := hT.wk.box
    exact h0.set 1 _
  have hp3 : w2.ownsRow w0.heap.size 3 1 (.slice (some ⟨g3, 0, none⟩) N1 pc2) N1 (intsV ps) := by
    have h0 := hT.wk.path
    rw [HPL.out, HN1.out, intsV_app] at h0
    exact ownsRow_pop (by rw [intsV_len, HN1.out, Nat.mul_one]) h0
  have hg3 : g3 ≠ B := by
    obtain ⟨c1, e1⟩ := owns_type hp3 (g := g3) rfl
    exact type_ne e1 (show w2.heap[B]? = _ from hT.wk.box) (by decide)
  have hK3 : Wk w3 X2 w0.heap.size B S n cap ps vs2 (.slice (some ⟨g3, 0, none⟩) N1 pc2) sv2 bv2 := by
    refine Wk.turn hT.wk ?_ (fun q e => .inl e) hB3 (hF3.mono (fun q h => .inl h)) (fun _ h => h) (fun q h1 h2 => by omega) (fun q h => ⟨(hT.wk.low q h).1, by rw [hsz3]; exact (hT.wk.low q h).2⟩)
    rw [HN1.out]
    exact owns_by hp3 (fun q e => by have e : some g3 = some q := e; cases e; exact hF3.same g3 (owns_lt hp3 rfl) hg3)
  have hN3 := Nod.recd hT.nod hF3 (fun q h => by rw [h]; exact hT.wk.inX) (fun q h => .inl h)
  have hsW := hT.fr.low.size
  rw [hw3]
  refine ⟨y', lk, ok, rfl, HST.out, A3, X2, _, _, ks3, cur, vs2, _, sv2, bv2, ⟨⟨hT.fr.low.trans hF3.low, fun q hq hn => (hF3.same q (by omega) (fun e => hn (.inr (.inl (by rw [e]; exact HK.out.inX))))).trans (hT.fr.same q hq hn)⟩, hT.newA, hT.newX, hT.size, hT.same, hN3, hK3, ?_⟩⟩
  rw [hT.list, pfx_pre]
end Go.Proofs.YtokbgbbkopmngaaGreat
/- The walk's settle. -/
namespace Go.Proofs.YtokbgbbkopmngaaGreat
open Go.RowKit Go.Deep

/-- settle's loop. -/
def SetL (S' : Sg) (ar : Int → Nat) (x : ByteArray × Int) (l : List Tn) (W : World) (X : Bl) (N0 b o : Nat) (A : Bl) (cur : Array Value) (B : Nat) (S : Option Addr) (n cap : Nat) (ps : List Int) (ls0 : List Bs) (f : Nat) (left ok : Value) (wr : World) : Prop :=
  ∃ (U D : List Tn) (ls : List Bs), f = sizes U ∧ left = .int .i64 (U.length : Int) ∧ ok = .bool true ∧ SeSt S' ar x l U D ls ∧ ResE W X N0 b o A cur B S n cap ps x (U ++ D) (ls0 ++ ls.map (pfx ps)) wr
theorem map_two (ls0 a b : List Bs) (ps : List Int) : (ls0 ++ a.map (pfx ps)) ++ b.map (pfx ps) = ls0 ++ (a ++ b).map (pfx ps) := by rw [List.map_append, List.append_assoc]
set_option maxRecDepth 100000 in
set_option maxHeartbeats 8000000 in
theorem settle_step {k : Nat} (ih : SetOk k) : SetOk (k + 1) := by
  intro w0 S n cap B b o L X A x l a c ks cur ps vs pv sv bv W hS hb hN hK hO hUJ hr hc hk hk2 hps hvs
  rw [size_nd] at hk hk2 hps hvs
  have hcs := c_sq l
  obtain ⟨Z, hZ⟩ : ∃ Z, (sizes l + 1) * (sizes l + 1) = Z := ⟨_, rfl⟩
  rw [hZ] at hvs hcs
  have hlen := len_sizes l
  have hst := strip_any w0 S n cap B b o L (arAt L) X A x [] l [] a c ks cur ps vs pv sv bv W hS hb (by simpa using hN) hK (by simp only [List.nil_append, List.append_nil]; omega) (by omega) (by omega)
  rw [show ((([] : List Tn).length : Nat) : Int) = 0 from rfl, show (0 : Int) + (l.length : Int) = (l.length : Int) by omega] at hst
  have n2 := hN.pl.nd.list
  have hksl : ks.length = l.length := by rw [← hN.kids, List.length_map]
  rw [hksl] at n2
  obtain ⟨ls0, hls0⟩ : ∃ ls0, vs.map Wv.b = ls0 := ⟨_, rfl⟩
  rw [hls0] at hst ⊢
  have hl0 : ls0.length = vs.length := by rw [← hls0, List.length_map]
  have hll : l.length ≤ 1000 := by omega
  obtain ⟨N, hNe⟩ : ∃ N : Nat, l.length = N := ⟨_, rfl⟩
  rw [hNe] at n2 hst hll
  have HST := hid hst; have HS := hid hS; have HB := hid hb; have HNo := hid hN; have HKo := hid hK; have HO := hid hO; have HUJ := hid hUJ; have HR := hid hr; have HC := hid hc; have HK1 := hid hk; have HK2 := hid hk2; have HPS := hid hps; have HVS := hid hvs; have HCS := hid hcs; have HZ := hid hZ
  have HL0 : Hid (ls0.length = vs.length) := hid hl0
  have HNE := hid hNe; have HLN := hid hlen
  clear hst hS hb hN hK hO hUJ hr hc hk hk2 hps hvs hcs hZ hlen hksl hls0 hl0 hNe
  go_enter Tryz.func29, Tryz.ntmps29
  go_wp2_with fail
  refine HST.out.mono ?_
  rintro e w1 (⟨D0, l1, rfl, hsp, hres⟩ | ⟨z, l1, rfl, hsp, hres⟩)
  · obtain ⟨mu, hmu⟩ := count_of2 (SetL (sgOf L) (arAt L) x l W X w0.heap.size b o A cur B S n cap ps ls0)
    have HMU := hid hmu
    have H0 : Hid (SetL (sgOf L) (arAt L) x l W X w0.heap.size b o A cur B S n cap ps ls0 (sizes D0) (.int .i64 (D0.length : Int)) (.bool true) w1) := hid ⟨D0, [], l1, rfl, rfl, rfl, SeSt.start hsp, by simpa using hres⟩
    rw [show (((([] : List Tn).length + D0.length : Nat)) : Int) = (D0.length : Int) by simp]
    have hdb : D0.length ≤ 1000 := by
      have h1 := hsp.cost
      have h2 := len_sizes D0
      have := HK2.out
      omega
    obtain ⟨d0, hd0⟩ : ∃ d0 : Int, (D0.length : Int) = d0 := ⟨_, rfl⟩
    rw [hd0] at H0 ⊢
    have hd1 : 0 ≤ d0 ∧ d0 ≤ 1000 := by omega
    clear hmu hsp hres hd0 hdb n2 HST
    go_wp2_with fail
    go_loopw [5, 6, 7, 8] (fun lv ov _ _ wr => ∃ f, SetL (sgOf L) (arAt L) x l W X w0.heap.size b o A cur B S n cap ps ls0 f lv ov wr) (fun lv ov _ _ wr => mu lv ov wr)
    case atStart => exact ⟨_, H0.out⟩
    case round =>
      obtain ⟨f, hrs⟩ := hrel
      have hst := (HMU.out _ _ _ _ hrs).1
      clear hrs H0
      obtain ⟨U, D, ls, hf, hlv, hov, hse, A', X', a', c', ks', cur', vs', pv', sv', bv', hres⟩ := hst
      have hsm := hse.small
      have hvl : vs'.length = ls0.length + ls.length := by have := congrArg List.length hres.list; simpa using this
      have hlw := Res.low HB.out HNo.out HKo.out hres
      have hrk := Runs.ok HO.out HUJ.out HR.out HC.out hse.runs
      rcases snoc_cases U with rfl | ⟨U1, y, rfl⟩
      · have e0 : (([] : List Tn).length : Int) = 0 := rfl
        rw [e0] at hlv
        subst hlv hov
        rw [List.nil_append] at hres
        have hcost := hse.cost
        rw [sqs_nil, sizes_nil] at hcost
        rw [sizes_nil] at hsm
        have hDl := len_sizes D
        have hbd := bound_sq (sizes l) (sqs l) (sqs_le l)
        rw [HZ.out] at hbd
        have hor := order_any w0 S n cap B b o L X' A' x D a' c' ks' cur' ps vs' pv' sv' bv' wr HS.out hlw hres.nod hres.wk (by have := HK2.out; omega) (by have := HPS.out; omega) (by have := HVS.out; have := HL0.out; omega)
        have HOR := hid hor; have HRES := hid hres; have HSE := hid hse
        clear hor hres hse hcost hsm hDl hbd hvl hlw hrk hf
        go_wp2_with fail
        refine HOR.out.mono ?_
        rintro e w2 ⟨⟨v, rfl⟩, A1, lo, hoe, A2, X2, a2, c2, ks2, cur2, vs2, pv2, sv2, bv2, hr2⟩
        have HOE := hid hoe; have HR2 := hid hr2
        clear hoe hr2 HOR
        go_wp2_with fail
        go_ret
        have hfin := HSE.out.fin HO.out HUJ.out HR.out HC.out HOE.out
        refine ⟨nd x A1, ls ++ lo, true, rfl, hfin, A2, X2, a2, c2, ks2, cur2, vs2, pv2, sv2, bv2, ?_⟩
        have h1 := HRES.out.trans HR2.out
        rw [HRES.out.list, map_two] at h1
        rw [show kidsL (nd x A1).2 = A1 from kids_mk _]
        exact h1
      · obtain ⟨i, hi⟩ : ∃ i : Nat, U1.length = i := ⟨_, rfl⟩
        have hUl : ((U1 ++ [y]).length : Int) = (i : Int) + 1 := by rw [List.length_append, hi]; rfl
        rw [hUl] at hlv
        subst hlv hov
        have hcost := hse.cost
        rw [sizes_append, sizes_cons, sizes_nil] at hsm hcost hf
        rw [sqs_append, sqs_cons, sqs_nil] at hcost
        have hU1 := len_sizes U1
        have hil : i ≤ 1000 := by have := HK2.out; omega
        have hym : y ∈ kidsL (nd x ((U1 ++ [y]) ++ D)).2 := by unfold nd; rw [kids_mk]; simp
        have hry : RightT (sgOf L) (arAt L) y := right_kids.1 hrk.1.2 y hym
        have hcy : Cln y.2 := cln_kids hrk.2.1 y hym
        have hget : ((U1 ++ [y]) ++ D)[i]? = some y := by rw [← hi, List.append_assoc]; exact at_get U1 D y
        have hsa := settleArg_any ih w0 S n cap B b o L X' A' x _ a' c' ks' cur' ps vs' pv' sv' bv' wr i y HS.out hlw hres.nod hres.wk HO.out HUJ.out hget hry hcy (by have := HK1.out; omega) (by have := HK2.out; omega) (by have := HPS.out; omega) (by have := HVS.out; have := HL0.out; have := HCS.out; omega)
        have HSA := hid hsa; have HRES := hid hres; have HSE := hid hse; have HI := hid hi; have HF := hid hf; have HCO := hid hcost; have HSM := hid hsm; have HVL := hid hvl; have HU1 := hid hU1
        clear hsa hres hse hi hf hcost hsm hvl hlw hrk hU1 hUl hym hry hcy hget
        go_wp2_with fail
        refine HSA.out.mono ?_
        rintro e w2 ⟨y', lk, ok, rfl, hstl, A2, X2, a2, c2, ks2, cur2, vs2, pv2, sv2, bv2, hr2⟩
        have hr := HRES.out.trans hr2
        rw [HRES.out.list, map_two, ← HI.out, set_mid, HI.out] at hr
        have hlw := Res.low HB.out HNo.out HKo.out hr
        have hv2 : vs2.length = ls0.length + (ls.length + lk.length) := by have := congrArg List.length hr.list; simpa using this
        have hys := hstl.size
        have hlk : lk.length ≤ 4 * (sizeT y * sizeT y) := by
          cases ok with
          | true => exact (hstl.yes rfl).2
          | false => have := (hstl.no rfl).2; omega
        have hs2 := strip_any w0 S n cap B b o L (arAt L) X2 A2 x U1 [y'] D a2 c2 ks2 cur2 ps vs2 pv2 sv2 bv2 w2 HS.out hlw hr.nod hr.wk (by rw [sizes_append, sizes_append, sizes_cons, sizes_nil]; have := HSM.out; have := HK2.out; omega) (by have := HPS.out; omega) (by rw [sizes_cons, sizes_nil]; have := HCO.out; have := HCS.out; have := HVS.out; have := HL0.out; have := HK2.out; have := HSM.out; omega)
        rw [HI.out, show (([y'] : List Tn).length : Int) = 1 from rfl, hr.list] at hs2
        have HS2 := hid hs2; have HRR := hid hr; have HSTL := hid hstl
        clear hs2 hr hr2 hstl hlw hv2 hys hlk HSA
        go_wp2_with fail
        refine HS2.out.mono ?_
        rintro e w3 (⟨D1, l1', rfl, hsp, A3, X3, a3, c3, ks3, cur3, vs3, pv3, sv3, bv3, hr3⟩ | ⟨z, l1', rfl, hsp, A3, X3, a3, c3, ks3, cur3, vs3, pv3, sv3, bv3, hr3⟩)
        · have hr := HRR.out.trans hr3
          rw [map_two] at hr
          have hD1 : D1.length ≤ 1000 := by
            have h1 := hsp.cost
            have h2 := len_sizes D1
            have h3 := HSTL.out.size
            rw [sizes_cons, sizes_nil] at h1
            have := HSM.out; have := HK2.out; omega
          have HSP := hid hsp; have HR3 := hid hr
          clear hsp hr hr3 HS2
          rw [show ((U1.length + D1.length : Nat) : Int) = (i : Int) + (D1.length : Int) by rw [← HI.out]; omega]
          obtain ⟨d1, hd1'⟩ : ∃ d1 : Int, (D1.length : Int) = d1 := ⟨_, rfl⟩
          rw [hd1']
          have hd2 : 0 ≤ d1 ∧ d1 ≤ 1000 := by omega
          have HD1 := hid hd1'
          clear hd1' hD1
          cases ok with
          | true =>
            have HNW : Hid (SetL (sgOf L) (arAt L) x l W X w0.heap.size b o A cur B S n cap ps ls0 (sizes U1) (.int .i64 (i : Int)) (.bool true) w3) := hid ⟨U1, D1 ++ D, _, rfl, by rw [HI.out], rfl, by have := HSE.out.done HSTL.out HSP.out; rw [HI.out] at this; exact this, A3, X3, a3, c3, ks3, cur3, vs3, pv3, sv3, bv3, HR3.out⟩
            clear HRES HRR HR3
            go_wp2_with fail
            go_roundw
            case rel => exact ⟨_, HNW.out⟩
            case measure =>
              have h1 := (HMU.out _ _ _ _ HNW.out).2
              have h2 := HF.out
              have h3 := size_pos y
              omega
          | false =>
            have hag := HSE.out.again HSTL.out HSP.out
            rw [HI.out] at hag
            have HNW : Hid (SetL (sgOf L) (arAt L) x l W X w0.heap.size b o A cur B S n cap ps ls0 (sizes (U1 ++ D1)) (.int .i64 ((i : Int) + d1)) (.bool true) w3) := hid ⟨U1 ++ D1, D, _, rfl, by rw [List.length_append, HI.out]; exact congrArg (Value.int .i64) (by have := HD1.out; omega), rfl, hag.1, A3, X3, a3, c3, ks3, cur3, vs3, pv3, sv3, bv3, by rw [List.append_assoc]; exact HR3.out⟩
            have HAG := hid hag.2
            clear HRES HRR HR3 hag
            go_wp2_with fail
            go_roundw
            case rel => exact ⟨_, HNW.out⟩
            case measure =>
              have h1 := (HMU.out _ _ _ _ HNW.out).2
              have h2 := HF.out
              have h3 := HAG.out
              rw [sizes_append U1 [y], sizes_cons, sizes_nil] at h3
              omega
        · have hr := HRR.out.trans hr3
          rw [map_two] at hr
          have hov := HSE.out.over HO.out HUJ.out HR.out HC.out HSTL.out hsp
          have HOV := hid hov; have HR3 := hid hr
          clear hr hr3 hov hsp HS2
          obtain ⟨q, hq⟩ : ∃ q, decide (i = 0) = q := ⟨_, rfl⟩
          have HQ := hid hq
          clear hq
          go_wp2_with fail
          go_ret
          refine ⟨z, _, q, ?_, ?_, A3, X3, a3, c3, ks3, cur3, vs3, pv3, sv3, bv3, HR3.out⟩
          · show Ending.returned (.bool ((i : Int) == 0)) = _
            rw [← HQ.out, show ((i : Int) == 0) = decide (i = 0) by by_cases h : i = 0 <;> simp [h]]
          · have := HOV.out
            rw [HI.out, HQ.out] at this
            exact this
  · have hfl := Stl.fail (ar := arAt L) hsp
    have HFL := hid hfl; have HRES := hid hres
    clear hfl hsp hres n2 HST
    go_wp2_with fail
    go_loopw [5, 6, 7, 8] (fun lv ov _ _ wr => lv = .int .i64 0 ∧ ov = .bool false ∧ wr = w1) (fun _ _ _ _ _ => 0)
    case atStart => exact ⟨rfl, rfl, rfl⟩
    case round =>
      obtain ⟨rfl, rfl, rfl⟩ := hrel
      go_wp2_with fail
      go_ret
      exact ⟨z, l1, false, rfl, HFL.out, HRES.out⟩
theorem settle_any : ∀ k, SetOk k
  | 0 => fun w0 S n cap B b o L X A x l a c ks cur ps vs pv sv bv W _ _ _ _ _ _ _ _ hk => by rw [size_nd] at hk; omega
  | k + 1 => settle_step (settle_any k)
end Go.Proofs.YtokbgbbkopmngaaGreat
/- Down. -/
namespace Go.Proofs.YtokbgbbkopmngaaGreat
open Go.RowKit Go.Deep

/-- The record's steps, as a list. -/
theorem Wk.list {W : World} {X : Bl} {N0 B : Nat} {S : Option Addr} {n cap : Nat} {ps : List Int} {vs : List Wv} {pv sv bv : Value} (h : Wk W X N0 B S n cap ps vs pv sv bv) (hl : vs.length ≤ 1048576) : ∃ a c, sv = .slice a vs.length c ∧ vs.length ≤ c ∧ c ≤ maxLen ∧ StpsAt W a vs.length (vs.map fun x => x.b.st) := by
  rcases h.steps.2 with ⟨h1, h2⟩ | ⟨g, c, cur, h1, h2, h3, h4, h5, h6, h7⟩
  · have e : vs = [] := List.length_eq_zero_iff.1 h2
    subst e
    exact ⟨none, 0, h1, Nat.zero_le _, Nat.zero_le _, ⟨rfl, Nat.zero_le _, fun i hi => absurd hi (by simp)⟩⟩
  · refine ⟨some ⟨g, 0, none⟩, c, h1, h4, h5, ⟨by rw [List.length_map], hl, fun i hi => ?_⟩⟩
    have hi' : i < vs.length := by rwa [List.length_map] at hi
    have o := h.all vs[i] (List.getElem_mem hi')
    have cell : ∀ k v, k < 5 → (wsC vs[i])[k]? = some v → W.cell? ⟨g, 0 + i * 5 + k, none⟩ = some v := fun k v hk hv => by
      refine cell_box h3 ?_
      have e1 := (flat5_at ws5 vs i k hi' hk).trans hv
      rw [← h7, List.getElem?_take] at e1
      split at e1
      · rw [Array.getElem?_toList] at e1; rw [Nat.zero_add]; exact e1
      · cases e1
    refine ⟨g, 0, vs[i].a, vs[i].b.path.length, vs[i].c, rfl, ?_⟩
    rw [List.getElem_map]
    exact ⟨cell 0 _ (by omega) rfl, cell 1 _ (by omega) rfl, cell 2 _ (by omega) rfl, cell 3 _ (by omega) rfl, cell 4 _ (by omega) rfl, o.ints, o.few, o.fits, o.cap⟩
/-- wayDown's loop. -/
def WdL (L : List Sym) (t : Tn) (W1 : World) (X : Bl) (N0 b : Nat) (A : Bl) (cur : Array Value) (B : Nat) (S : Option Addr) (n cap : Nat) (f : Nat) (_u _v : Value) (wr : World) : Prop :=
  ∃ t' ls, f = sizeT t' ∧ DnSt (sgOf L) (arAt L) t t' ls ∧ ResE W1 X N0 b 0 A cur B S n cap [] t'.1 (kidsL t'.2) ([] ++ ls.map (pfx [])) wr
theorem pfx_nil (l : List Bs) : l.map (pfx []) = l := by
  rw [show (pfx [] : Bs → Bs) = id from rfl, List.map_id]
/-- What wayDown answers. -/
def WdEnd (L : List Sym) (t : Tn) (S : Option Addr) (n cap : Nat) (w : World) (e : Ending) (w' : World) : Prop := ∃ B ls X vs pv sv bv, e = .returned (.pointer (some ⟨B, 0, none⟩)) ∧ DnEnd (sgOf L) t ls ∧ Wk w' X w.heap.size B S n cap [] vs pv sv bv ∧ vs.map Wv.b = ls ∧ Below w.heap.size w w'
set_option maxRecDepth 100000 in
set_option maxHeartbeats 4000000 in
theorem wayDown_any (S : Option Addr) (n cap : Nat) (L : List Sym) (t : Tn) (a : Option Addr) (c : Nat) (w : World)
    (hS : SigAt w S n L) (hT : TmAt w t.1 a c t.2) (hn : sizeT t ≤ 200) (hO : (sgOf L).Ok (arAt L)) (hUJ : ∀ f u, (sgOf L).unit f = some u → (sgOf L).joins f = true) (hr : RightT (sgOf L) (arAt L) t) (hc : Cln t.2) :
    Calls Tryz.prog 17 #[.slice S n cap, .agg #[.string t.1.1, .int .i64 t.1.2, .slice a (lenF t.2) c]] w (WdEnd L t S n cap w) := by
  obtain ⟨W0, hW0⟩ : ∃ W0, (w.alloc (.cells #[.string t.1.1, .int .i64 t.1.2, .slice a (lenF t.2) c] 26)).alloc (.cells #[.slice S n cap, .slice none 0 0, .slice none 0 0, .slice none 0 0] 52) = W0 := ⟨_, rfl⟩
  have hb0 : Below w.heap.size w W0 := by rw [← hW0]; exact (alloc_below0 w _).alloc (by simp) _
  have hsz : W0.heap.size = w.heap.size + 2 := by rw [← hW0]; simp
  have B0 : Box W0 w.heap.size 26 #[.string t.1.1, .int .i64 t.1.2, .slice a (lenF t.2) c] := by rw [← hW0]; exact (Box.new w 26 _).over _
  have B1 : Box W0 (w.heap.size + 1) 52 #[.slice S n cap, .slice none 0 0, .slice none 0 0, .slice none 0 0] := by rw [← hW0]; exact box_new (by rw [World.size_alloc]) 52 _
  have hC := cloneF_any t.1 t.2 a c W0 (hT.below hb0)
  have d0 := B0.v (k := 0) rfl; have d1 := B0.v (k := 1) rfl; have d2 := B0.v (k := 2) rfl
  have HB0 := hid hb0; have HSZ := hid hsz; have HX0 := hid B0; have HX1 := hid B1; have HS := hid hS; have HN := hid hn; have HO := hid hO; have HUJ := hid hUJ; have HR := hid hr; have HCC := hid hc; have HC := hid hC
  clear hb0 hsz B0 B1 hS hT hn hO hUJ hr hc hC
  go_enter Tryz.func17, Tryz.ntmps17
  go_wp2_with fail
  clear hW0
  refine HC.out.mono ?_
  rintro e w1 ⟨a', c', rfl, hF1, hb1, _⟩
  have X0 := HX0.out.below hb1; have X1 := HX1.out.below hb1
  have x0 := X0.v (k := 0) rfl; have x1 := X0.v (k := 1) rfl; have x2 := X0.v (k := 2) rfl
  have xf0 := X0.f 0; have xf1 := X0.f 1; have xf2 := X0.f 2
  obtain ⟨W1, hW1⟩ : ∃ W1, ((w1.setCell ⟨w.heap.size, 0, none⟩ (.string t.1.1)).setCell ⟨w.heap.size, 1, none⟩ (.int .i64 t.1.2)).setCell ⟨w.heap.size, 2, none⟩ (.slice a' (lenF t.2) c') = W1 := ⟨_, rfl⟩
  have hsz0 := HSZ.out
  have hs1 := hb1.size
  have hFr : Fr (fun q => q = w.heap.size) w1 W1 := by rw [← hW1]; exact sets3_fr _ _ _
  have hsW : W1.heap.size = w1.heap.size := by rw [← hW1]; simp
  have Y0 : Box W1 w.heap.size 26 #[.string t.1.1, .int .i64 t.1.2, .slice a' (lenF t.2) c'] := by rw [← hW1]; exact sets3_box X0 _ _ _
  have Y1 := X1.fr hFr (by omega)
  have hF2 : FulTm W1 (fun q => W0.heap.size ≤ q) t.1 a' c' t.2 := hF1.keep (fun q hq hlt => hFr.same q hlt (by omega))
  have hbW : Below w.heap.size w W1 := (HB0.out.trans (hb1.mono HB0.out.size)).trans (hFr.below (fun k hk => by omega) (by omega))
  obtain ⟨ks, hks, hPl⟩ := pl_of_ful Y0 hF2 (by omega)
  have hNod : Nod W1 (fun q => q = w.heap.size + 1) w.heap.size w.heap.size 0 (fun q => W0.heap.size ≤ q ∧ q < W1.heap.size) t.1 (kidsL t.2) a' c' ks #[.string t.1.1, .int .i64 t.1.2, .slice a' (lenF t.2) c'] :=
    ⟨hPl.within, hks, fun q hq => ⟨by omega, hq.2⟩, fun q hq e => by have e : q = w.heap.size + 1 := e; omega, fun e => by have e : w.heap.size = w.heap.size + 1 := e; omega, Nat.le_refl _⟩
  have hWk : Wk W1 (fun q => q = w.heap.size + 1) w.heap.size (w.heap.size + 1) S n cap [] [] (.slice none 0 0) (.slice none 0 0) (.slice none 0 0) :=
    ⟨Y1, rfl, World.ownsRow_nil _ _ _ _, World.ownsRow_nil _ _ _ _, World.ownsRow_nil _ _ _ _, fun g e => (by cases e), fun g e => (by cases e), fun g e => (by cases e), fun g e => (by cases e), fun x hx => (by cases hx), fun q hq => by have hq : q = w.heap.size + 1 := hq; omega⟩
  obtain ⟨cur, hcur⟩ : ∃ cur, (#[.string t.1.1, .int .i64 t.1.2, .slice a' (lenF t.2) c'] : Array Value) = cur := ⟨_, rfl⟩
  rw [hcur] at hNod
  have H0 : Hid (WdL L t W1 (fun q => q = w.heap.size + 1) w.heap.size w.heap.size (fun q => W0.heap.size ≤ q ∧ q < W1.heap.size) cur (w.heap.size + 1) S n cap (sizeT t) (.bool true) (.bool true) W1) := hid ⟨t, [], rfl, DnSt.start, _, _, _, _, _, _, _, _, _, _, Res.self hNod hWk (Below.refl _ W1)⟩
  obtain ⟨mu, hmu⟩ := count_of2 (WdL L t W1 (fun q => q = w.heap.size + 1) w.heap.size w.heap.size (fun q => W0.heap.size ≤ q ∧ q < W1.heap.size) cur (w.heap.size + 1) S n cap)
  have HMU := hid hmu; have HND := hid hNod; have HWK := hid hWk; have HBW := hid hbW
  clear hF1 hb1 X0 X1 hFr Y0 Y1 hF2 hbW hPl hks hNod hWk hcur hmu hs1 hsW d0 d1 d2 HC
  go_wp2_with fail
  clear x0 x1 x2 xf0 xf1 xf2
  try rw [hW1]
  clear hW1
  go_loopw [11, 12, 13] (fun _ _ _ wr => ∃ f, WdL L t W1 (fun q => q = w.heap.size + 1) w.heap.size w.heap.size (fun q => W0.heap.size ≤ q ∧ q < W1.heap.size) cur (w.heap.size + 1) S n cap f (.bool true) (.bool true) wr) (fun _ _ _ wr => mu (.bool true) (.bool true) wr)
  case atStart => exact ⟨_, H0.out⟩
  case round =>
    obtain ⟨f, hrs⟩ := hrel
    obtain ⟨t', ls, hf, hdn, A', X', a2, c2, ks2, cur2, vs2, pv2, sv2, bv2, hres⟩ := (HMU.out _ _ _ _ hrs).1
    have hlw := Res.low HBW.out HND.out HWK.out hres
    have hrk := Runs.ok HO.out HUJ.out HR.out HCC.out hdn.runs
    have hnd := nd_self hrk.2.1
    have hvl : vs2.length = ls.length := by have := congrArg List.length hres.list; simpa using this
    have hsz2 := hdn.size
    have hcost := hdn.cost
    have hsq : sizeT t * sizeT t ≤ 40000 := Nat.mul_le_mul HN.out HN.out
    have hse := settle_any (sizeT t') w S n cap (w.heap.size + 1) w.heap.size 0 L X' A' t'.1 (kidsL t'.2) a2 c2 ks2 cur2 [] vs2 pv2 sv2 bv2 wr HS.out hlw hres.nod hres.wk HO.out HUJ.out (by rw [hnd]; exact hrk.1) (by rw [hnd]; exact hrk.2.1) (by rw [hnd]; exact Nat.le_refl _) (by rw [hnd]; have := HN.out; omega) (by rw [hnd]; have := HN.out; simp; omega) (by rw [hnd]; omega)
    rw [hnd] at hse
    have HSE := hid hse; have HRES := hid hres; have HDN := hid hdn; have HF := hid hf
    clear hrs hf hdn hres hlw hrk hnd hvl hsz2 hcost hsq hse H0
    go_wp2_with fail
    refine HSE.out.mono ?_
    rintro e w2 ⟨t2, lk, ok, rfl, hst, A3, X3, a3, c3, ks3, cur3, vs3, pv3, sv3, bv3, hr3⟩
    have hr := HRES.out.trans hr3
    rw [HRES.out.list, map_two] at hr
    have HST := hid hst; have HRR := hid hr
    clear hst hr hr3 HSE
    cases ok with
    | true =>
      go_wp2_with fail
      go_ret
      obtain ⟨_, hend⟩ := HDN.out.fin HO.out HUJ.out HR.out HCC.out HST.out
      refine ⟨w.heap.size + 1, _, X3, vs3, pv3, sv3, bv3, rfl, hend, HRR.out.wk, ?_, Res.low HBW.out HND.out HWK.out HRR.out⟩
      rw [HRR.out.list, pfx_nil]
      rfl
    | false =>
      have HNW : Hid (WdL L t W1 (fun q => q = w.heap.size + 1) w.heap.size w.heap.size (fun q => W0.heap.size ≤ q ∧ q < W1.heap.size) cur (w.heap.size + 1) S n cap (sizeT t2) (.bool true) (.bool true) w2) := hid ⟨t2, _, rfl, HDN.out.more HST.out, A3, X3, a3, c3, ks3, cur3, vs3, pv3, sv3, bv3, HRR.out⟩
      clear HRES HRR
      go_wp2_with fail
      go_roundw
      case rel => exact ⟨_, HNW.out⟩
      case measure =>
        have h1 := (HMU.out _ _ _ _ HNW.out).2
        have h2 := HF.out
        have h3 := (HST.out.no rfl).1
        omega
end Go.Proofs.YtokbgbbkopmngaaGreat
/- The program's Way: down from the one term, and up again to the other one. -/
namespace Go.Proofs.YtokbgbbkopmngaaGreat
open Go.RowKit Go.Deep

/-! ### rows of steps -/
def bkW (x : Wv) : Wv := ⟨⟨x.b.path, x.b.back, x.b.sp⟩, x.a, x.c⟩
theorem flat_bk (l : List Wv) : (l.map bkW).flatMap wsC = l.flatMap wbC := by
  rw [List.flatMap_map]; rfl
theorem reverse_none (w : World) : Calls Tryz.prog 18 #[.slice none 0 0] w fun e w' => (∃ v, e = .returned v) ∧ Below w.heap.size w w' := by
  go_enter Tryz.func18, Tryz.ntmps18
  go_wp2_with fail
  go_loopw [2, 3] (fun iv jv wr => iv = .int .i64 0 ∧ jv = .int .i64 (-1) ∧ Below w.heap.size w wr) (fun _ _ _ => 0)
  case atStart => exact ⟨rfl, rfl, Below.refl _ _⟩
  case round =>
    obtain ⟨rfl, rfl, hb⟩ := hrel
    have HB := hid hb
    clear hb
    go_wp2
    refine bodyPost_end (results_none rfl _ _ _) rfl ?_
    exact ⟨⟨_, rfl⟩, HB.out⟩
theorem rev_owned (N0 : Nat) (bv : Value) (vs : List Wv) (w : World) (h : w.ownsRow N0 47 5 bv vs.length (vs.flatMap wbC)) (hn : vs.length ≤ 1048576) :
    Calls Tryz.prog 18 #[bv] w fun e w' => (∃ v, e = .returned v) ∧ w'.ownsRow N0 47 5 bv vs.length (vs.reverse.flatMap wbC) ∧ Fr (fun q => bv.ownBlock = some q) w w' := by
  rcases h.2 with ⟨rfl, h2⟩ | ⟨g, c, cur, rfl, h2, h3, h4, h5, h6, h7⟩
  · have e : vs = [] := List.length_eq_zero_iff.1 h2
    subst e
    exact (reverse_none w).mono fun e w' ⟨hv, hb⟩ => ⟨hv, World.ownsRow_nil _ _ _ _, Fr.of_below hb⟩
  · refine (reverse_steps g c vs w ⟨⟨cur, h3, h6, h7⟩, h4, h5⟩ hn).mono fun e w' ⟨hv, hso⟩ => ⟨hv, ?_, hso.fr.mono fun q hq => by subst hq; rfl⟩
    obtain ⟨cur2, k1, k2, k3⟩ := hso.row.row
    rw [List.length_reverse] at k3
    exact ⟨by rw [flat5_len wb5, List.length_reverse], .inr ⟨g, c, cur2, rfl, h2, k1, h4, h5, k2, k3⟩⟩
set_option maxRecDepth 100000 in
theorem app_steps {w : World} {B k N1 : Nat} {v bv : Value} {xs : List Value} {l : List Wv} (ty : TypeId) (h : w.ownsRow B 47 5 v k xs) (hr : w.ownsRow N1 47 5 bv l.length (l.flatMap wbC)) (hk : k ≤ 1048576) (hp : l.length ≤ 1048576) (hB : B ≤ w.heap.size) :
    ∃ v' w', (Builtin.append_ #[27, 27] ty #[v, bv]).run Tryz.prog w = .ok v' w' ∧ w'.ownsRow B 47 5 v' (k + l.length) (xs ++ l.flatMap wbC) ∧ w.grownBy w' v.ownBlock := by
  obtain ⟨i0, hi0, hz0, hz1, hz2⟩ := info_parts Tryz.info39b
  rcases hr.2 with ⟨rfl, h2⟩ | ⟨g, c, cur, rfl, h2, h3, h4, h5, h6, h7⟩
  · have e : l = [] := List.length_eq_zero_iff.1 h2
    subst e
    have : (Builtin.append_ #[27, 27] ty #[v, .slice none 0 0]).run Tryz.prog w = .ok v w := by
      rcases h.2 with ⟨rfl, rfl⟩ | ⟨g, cap, cur, rfl, _, _, hnc, _⟩
      · simp [Builtin.append_, run_underlying Tryz.underlying27, sizeOf, typeInfo, hi0, Builtin.lenOf, Builtin.firstCells]
      · simp [Builtin.append_, run_underlying Tryz.underlying27, sizeOf, typeInfo, hi0, Builtin.lenOf, Builtin.firstCells, hnc, storeCells]
    exact ⟨_, _, this, by simpa using h, ⟨rfl, rfl, rfl, Nat.le_refl _, fun _ _ _ => rfl⟩⟩
  · obtain ⟨v', w1, hr1, hA1, hG1, _, _⟩ := run_append_own_at (P := Tryz.prog) w B 27 ty 47 i0 _ 5 56 Tryz.underlying27 hi0 hz0 hz1 hz2 rfl (by decide) v k xs h ⟨g, 0, none⟩ l.length c (l.flatMap wbC) (by rw [flat5_len wb5])
      (fun j u hu => by
        rw [Addr.add_lit, Nat.zero_add]
        rw [← h7, List.getElem?_take] at hu
        split at hu
        · rw [Array.getElem?_toList] at hu; exact cell_box h3 hu
        · cases hu) (fun u hu => by obtain ⟨x, _, hx⟩ := List.mem_flatMap.1 hu; exact encWb.one x u hx) (by unfold maxLen; omega) (by omega) hB
    exact ⟨v', w1, hr1, hA1, hG1⟩
theorem stps_of_owns {W : World} {N0 : Nat} {v : Value} {vs : List Wv} (h : W.ownsRow N0 47 5 v vs.length (vs.flatMap wsC)) (hl : vs.length ≤ 1048576)
    (hall : ∀ x ∈ vs, IntsAt W x.a x.b.path.length x.b.path ∧ x.b.path.length ≤ 1048576 ∧ x.b.path.length ≤ x.c ∧ x.c ≤ maxLen) : ∃ a c, v = .slice a vs.length c ∧ StpsAt W a vs.length (vs.map fun x => x.b.st) := by
  rcases h.2 with ⟨h1, h2⟩ | ⟨g, c, cur, h1, h2, h3, h4, h5, h6, h7⟩
  · have e : vs = [] := List.length_eq_zero_iff.1 h2
    subst e
    exact ⟨none, 0, h1, ⟨rfl, Nat.zero_le _, fun i hi => absurd hi (by simp)⟩⟩
  · refine ⟨some ⟨g, 0, none⟩, c, h1, ⟨by rw [List.length_map], hl, fun i hi => ?_⟩⟩
    have hi' : i < vs.length := by rwa [List.length_map] at hi
    obtain ⟨o1, o2, o3, o4⟩ := hall vs[i] (List.getElem_mem hi')
    have cell : ∀ k v, k < 5 → (wsC vs[i])[k]? = some v → W.cell? ⟨g, 0 + i * 5 + k, none⟩ = some v := fun k v hk hv => by
      refine cell_box h3 ?_
      have e1 := (flat5_at ws5 vs i k hi' hk).trans hv
      rw [← h7, List.getElem?_take] at e1
      split at e1
      · rw [Array.getElem?_toList] at e1; rw [Nat.zero_add]; exact e1
      · cases e1
    refine ⟨g, 0, vs[i].a, vs[i].b.path.length, vs[i].c, rfl, ?_⟩
    rw [List.getElem_map]
    exact ⟨cell 0 _ (by omega) rfl, cell 1 _ (by omega) rfl, cell 2 _ (by omega) rfl, cell 3 _ (by omega) rfl, cell 4 _ (by omega) rfl, o1, o2, o3, o4⟩
/-! ### plainly -/
theorem way_play {S : Sg} {ar : Int → Nat} (hS : S.Ok ar) (hUJ : ∀ f u, S.unit f = some u → S.joins f = true) {t u : Tn} {l1 l2 : List Bs} (h1 : DnEnd S t l1) (h2 : DnEnd S u l2) (hr : RightT S ar u) (hc : Cln u.2) (he : canonT S t = canonT S u) :
    playN S t (l1.map Bs.st ++ (l2.map Bs.bk).reverse) 0 = (some u, 0) := by
  rw [Runs.play _ 0 h1.runs, he]
  have := Runs.unplay hS hUJ [] (0 + l1.length) hr hc h2.runs
  rw [List.append_nil] at this
  rw [this]
  rfl
/-! ### Way -/
/-- Behind both walks: what lies where. -/
def WyMid (L : List Sym) (t u : Tn) (S : Option Addr) (n cap : Nat) (N1 : Nat) (x y : Value) (w' : World) : Prop :=
  ∃ ls1 X1 vs1 B1 pv1 bv1 ls2 X2 vs2 B2 pv2 sv2 N2, DnEnd (sgOf L) t ls1 ∧ vs1.map Wv.b = ls1 ∧ Wk w' X1 N1 B1 S n cap [] vs1 pv1 x bv1 ∧ DnEnd (sgOf L) u ls2 ∧ vs2.map Wv.b = ls2 ∧ Wk w' X2 N2 B2 S n cap [] vs2 pv2 sv2 y ∧ (∀ q, X1 q → q < N2) ∧ N1 ≤ N2
def WayEnd (L : List Sym) (t u : Tn) (w : World) (e : Ending) (w' : World) : Prop :=
  Below w.heap.size w w' ∧ (((cmpN (canonT (sgOf L) t) (canonT (sgOf L) u) == 0) = false ∧ e = .returned (.tuple #[.slice none 0 0, .bool false])) ∨
    ((cmpN (canonT (sgOf L) t) (canonT (sgOf L) u) == 0) = true ∧ ∃ a c N l, e = .returned (.tuple #[.slice a N c, .bool true]) ∧ StpsAt w' a N l ∧ N ≤ 320000 ∧ playN (sgOf L) t l 0 = (some u, 0)))
/-- What is put together behind them. -/
theorem way_mid {L : List Sym} {t u : Tn} {S : Option Addr} {n cap N1 : Nat} {x y : Value} {V : World} (h : WyMid L t u S n cap N1 x y V) (hn : sizeT t ≤ 200) (hm : sizeT u ≤ 200) (hr : rightB L t = true) (hq : rightB L u = true) (hd : Cln u.2) (he : (cmpN (canonT (sgOf L) t) (canonT (sgOf L) u) == 0) = true) (hN : N1 ≤ V.heap.size) :
    Calls Tryz.prog 18 #[y] V fun e w4 => (∃ v, e = .returned v) ∧ ∃ a c N l w5, (Builtin.append_ #[27, 27] 27 #[x, y]).run Tryz.prog w4 = .ok (.slice a N c) w5 ∧ StpsAt w5 a N l ∧ N ≤ 320000 ∧ playN (sgOf L) t l 0 = (some u, 0) ∧ Below N1 V w5 := by
  obtain ⟨ls1, X1, vs1, B1, pv1, bv1, ls2, X2, vs2, B2, pv2, sv2, N2, hd1, hl1, hw1, hd2, hl2, hw2, hX, hNN⟩ := h
  obtain ⟨hO, hR⟩ := right_facts hr
  obtain ⟨_, hQ⟩ := right_facts hq
  have hs1 : sizeT t * sizeT t ≤ 40000 := Nat.mul_le_mul hn hn
  have hs2 : sizeT u * sizeT u ≤ 40000 := Nat.mul_le_mul hm hm
  have hc1 := hd1.cost
  have hc2 := hd2.cost
  have e1 : vs1.length = ls1.length := by rw [← hl1, List.length_map]
  have e2 : vs2.length = ls2.length := by rw [← hl2, List.length_map]
  refine (rev_owned N2 y vs2 V hw2.backs (by omega)).mono fun e w4 ⟨hv, ho4, hF4⟩ => ⟨hv, ?_⟩
  have hy2 : ∀ q, y.ownBlock = some q → N2 ≤ q := fun q hq' => (hw2.low q (hw2.bX q hq')).1
  have hw1' := hw1.fr hF4 (fun q hq' hx => by have h1 := hy2 q hq'; have h2 := hX q hx; omega)
  have hsz4 := hF4.low.size
  rw [show vs2.length = vs2.reverse.length from List.length_reverse.symm] at ho4
  obtain ⟨rv, hrv⟩ : ∃ rv, vs2.reverse = rv := ⟨_, rfl⟩
  rw [hrv] at ho4
  have e3 : rv.length = vs2.length := by rw [← hrv, List.length_reverse]
  obtain ⟨v5, w5, hrun, ho5, hg5⟩ := app_steps 27 hw1'.steps ho4 (by omega) (by omega) (by omega)
  have hkeep : ∀ q, q < w4.heap.size → x.ownBlock ≠ some q → w5.heap[q]? = w4.heap[q]? := fun q h1 h2 => hg5.block q h1 (fun e => h2 e.symm)
  have hVs : (vs1 ++ rv.map bkW).length = vs1.length + rv.length := by rw [List.length_append, List.length_map]
  rw [← hVs, ← flat_bk, ← List.flatMap_append] at ho5
  obtain ⟨a, c, rfl, hst⟩ := stps_of_owns ho5 (by omega) (fun z hz => by
    rcases List.mem_append.1 hz with hz | hz
    · have o := hw1'.all z hz
      refine ⟨ints_keep o.ints (fun hp ad e => hkeep _ (hw1'.low _ (o.far hp ad e).1).2 (fun e2 => (o.far hp ad e).2 (.inr (.inr (.inl e2))))), o.few, o.fits, o.cap⟩
    · obtain ⟨z0, hz0, rfl⟩ := List.mem_map.1 hz
      rw [← hrv] at hz0
      have o := hw2.all z0 (List.mem_reverse.1 hz0)
      refine ⟨ints_keep o.ints (fun hp ad e => ?_), o.few, o.fits, o.cap⟩
      obtain ⟨f1, f2⟩ := o.far hp ad e
      have f3 := hw2.low _ f1
      rw [hkeep _ (by omega) (fun e2 => by have := hX _ (hw1.sX _ e2); omega)]
      exact hF4.same _ f3.2 (fun e2 => f2 (.inr (.inr (.inr e2)))))
  refine ⟨a, c, _, _, w5, hrun, hst, by rw [hVs]; omega, ?_, ?_⟩
  · have e4 : ((vs1 ++ rv.map bkW).map fun x => x.b.st) = ls1.map Bs.st ++ (ls2.map Bs.bk).reverse := by
      rw [← hl1, ← hl2, ← hrv]
      simp only [List.map_append, List.map_map, List.map_reverse]
      rfl
    rw [e4]
    exact way_play hO unit_joins hd1 hd2 hQ hd ((same_iff hO hR hQ).1 (by simpa using he))
  · exact (hF4.below (fun k hk => Nat.le_trans hNN (hy2 k hk)) hN).trans ⟨hg5.os, hg5.tape, hg5.output, hg5.size, fun k hk => hg5.block k (by omega) (fun e => by have := (hw1.low k (hw1.sX k e.symm)).1; omega)⟩
end Go.Proofs.YtokbgbbkopmngaaGreat
/- The program's Way, whole. -/
namespace Go.Proofs.YtokbgbbkopmngaaGreat
open Go.RowKit Go.Deep

theorem step_append_run {P : Program} {ops : Array Oper} {o : Oper} {a : Act} {w : World} {K : Act → World → Prop} {Q : Exit → Act → World → Prop} {E : Prop} (hgd : o.guard = none) (s x : Operand) (t : TypeId)
    (ho : o.op = .call { callee := .builtin .append, args := #[s, x], argTypes := #[t, t] }) (vs vx : Value) (hs : a.eval s = vs) (hx : a.eval x = vx)
    (v' : Value) (w' : World) (hr : (Builtin.append_ #[t, t] o.type #[vs, vx]).run P w = .ok v' w') (h : K (a.put o.dst v') w') :
    if Region.wanted o (yielded ops a.tmps) = true then Oper.wp P o a w K Q else E := by
  have hw : Region.wanted o (yielded ops a.tmps) = true := by simp [Region.wanted, hgd]
  rw [if_pos hw]
  exact Lib.wp_append_run w s x t t ho vs vx hs hx v' w' hr h
set_option maxRecDepth 100000 in
set_option maxHeartbeats 8000000 in
theorem way_any (S : Option Addr) (n cap : Nat) (L : List Sym) (t u : Tn) (a b : Option Addr) (c d : Nat) (w : World)
    (hS : SigAt w S n L) (hT : TmAt w t.1 a c t.2) (hU : TmAt w u.1 b d u.2) (hn : sizeT t ≤ 200) (hm : sizeT u ≤ 200) (hr : rightB L t = true) (hq : rightB L u = true) (hc : Cln t.2) (hd : Cln u.2) :
    Calls Tryz.prog 7 #[.slice S n cap, .agg #[.string t.1.1, .int .i64 t.1.2, .slice a (lenF t.2) c], .agg #[.string u.1.1, .int .i64 u.1.2, .slice b (lenF u.2) d]] w (WayEnd L t u w) := by
  obtain ⟨W0, hW0⟩ : ∃ W0, (w.alloc (.cells #[.string t.1.1, .int .i64 t.1.2, .slice a (lenF t.2) c] 26)).alloc (.cells #[.string u.1.1, .int .i64 u.1.2, .slice b (lenF u.2) d] 26) = W0 := ⟨_, rfl⟩
  have hb0 : Below w.heap.size w W0 := by rw [← hW0]; exact (alloc_below0 w _).alloc (by simp) _
  have B0 : Box W0 w.heap.size 26 #[.string t.1.1, .int .i64 t.1.2, .slice a (lenF t.2) c] := by rw [← hW0]; exact (Box.new w 26 _).over _
  have B1 : Box W0 (w.heap.size + 1) 26 #[.string u.1.1, .int .i64 u.1.2, .slice b (lenF u.2) d] := by rw [← hW0]; exact box_new (by rw [World.size_alloc]) 26 _
  obtain ⟨hO, hR⟩ := right_facts hr
  obtain ⟨_, hQ⟩ := right_facts hq
  have HE := hid (pequal_any S n cap L t u a b c d W0 (hS.below hb0) (hT.below hb0) (hU.below hb0) (by unfold sizeT at hn; omega) (by unfold sizeT at hm; omega))
  have HT0 : Hid (∀ W, Below w.heap.size w W → Calls Tryz.prog 17 #[.slice S n cap, .agg #[.string t.1.1, .int .i64 t.1.2, .slice a (lenF t.2) c]] W (WdEnd L t S n cap W)) := hid fun W hW => wayDown_any S n cap L t a c W (hS.below hW) (hT.below hW) hn hO unit_joins hR hc
  have HU0 : Hid (∀ W, Below w.heap.size w W → Calls Tryz.prog 17 #[.slice S n cap, .agg #[.string u.1.1, .int .i64 u.1.2, .slice b (lenF u.2) d]] W (WdEnd L u S n cap W)) := hid fun W hW => wayDown_any S n cap L u b d W (hS.below hW) (hU.below hW) hm hO unit_joins hQ hd
  have x0 := B0.v (k := 0) rfl; have x1 := B0.v (k := 1) rfl; have x2 := B0.v (k := 2) rfl
  have y0 := B1.v (k := 0) rfl; have y1 := B1.v (k := 1) rfl; have y2 := B1.v (k := 2) rfl
  have HB0 := hid hb0; have HX0 := hid B0; have HX1 := hid B1; have HN := hid hn; have HM := hid hm; have HRR := hid hr; have HRQ := hid hq; have HDD := hid hd; have HO := hid hO; have HR := hid hR; have HQ := hid hQ
  clear hb0 B0 B1 hS hT hU hn hm hr hq hc hd hO hR hQ
  go_enter Tryz.func7, Tryz.ntmps7
  go_wp2_with fail
  clear hW0
  refine HE.out.mono ?_
  rintro e w1 ⟨r, r', hcr, hcr', rfl, hb1⟩
  have er := hcr.2 HO.out HR.out
  have er' := hcr'.2 HO.out HQ.out
  subst er
  subst er'
  obtain ⟨qv, hqv⟩ : ∃ qv, (cmpN (canonT (sgOf L) t) (canonT (sgOf L) u) == 0) = qv := ⟨_, rfl⟩
  rw [hqv]
  have HQV := hid hqv
  have HB1 := hid (HB0.out.trans (hb1.mono HB0.out.size))
  have X0 := HX0.out.below hb1; have X1 := HX1.out.below hb1
  have HT : Hid (∀ W, Below w1.heap.size w1 W → Calls Tryz.prog 17 #[.slice S n cap, .agg #[.string t.1.1, .int .i64 t.1.2, .slice a (lenF t.2) c]] W (WdEnd L t S n cap W)) := hid fun W hW => HT0.out W (HB1.out.trans (hW.mono HB1.out.size))
  have HU : Hid (∀ W, Below w1.heap.size w1 W → Calls Tryz.prog 17 #[.slice S n cap, .agg #[.string u.1.1, .int .i64 u.1.2, .slice b (lenF u.2) d]] W (WdEnd L u S n cap W)) := hid fun W hW => HU0.out W (HB1.out.trans (hW.mono HB1.out.size))
  clear x0 x1 x2 y0 y1 y2 hcr hcr' hb1 hqv
  have x0 := X0.v (k := 0) rfl; have x1 := X0.v (k := 1) rfl; have x2 := X0.v (k := 2) rfl
  have y0 := X1.v (k := 0) rfl; have y1 := X1.v (k := 1) rfl; have y2 := X1.v (k := 2) rfl
  have HXU1 := hid X1
  clear X0 X1 HE HT0 HU0
  cases qv with
  | false =>
    go_wp2_with fail
    refine bodyPost_ret (results_tmp2 rfl _ _ _) rfl ?_
    exact ⟨HB1.out, .inl ⟨HQV.out, rfl⟩⟩
  | true =>
    go_wp2_with fail
    go_cut [8, 9] (fun x y w' => WyMid L t u S n cap w1.heap.size x y w' ∧ Below w1.heap.size w1 w')
    case first =>
      go_region_with ((first | (go_at_call 17; (with_reducible refine Calls.mono (HT.out (World.drew w1) (Below.refl _ w1).drew) ?_); rintro e w2 ⟨B1, ls1, X1, vs1, pv1, sv1, bv1, rfl, hd1, hk1, hl1, hb2⟩; have HD1 := hid hd1; have HL1 := hid hl1; have HK1 := hid hk1; have HB2 : Hid (Below w1.heap.size w1 w2) := ((Below.refl _ w1).drew).trans hb2; have s1 := hk1.box.v (k := 2) rfl; have u0 := (HXU1.out.below HB2.out).v (k := 0) rfl; have u1 := (HXU1.out.below HB2.out).v (k := 1) rfl; have u2 := (HXU1.out.below HB2.out).v (k := 2) rfl; clear hd1 hl1 hk1 hb2) | (go_at_call 17; refine (HU.out w2 HB2.out).mono ?_; rintro e w3 ⟨B2, ls2, X2, vs2, pv2, sv2, bv2, rfl, hd2, hk2, hl2, hb3⟩; have HD2 := hid hd2; have HL2 := hid hl2; have HK2 := hid hk2; have HB3 := hid hb3; have HB3c : Hid (Below w1.heap.size w1 w3) := HB2.out.trans (hb3.mono HB2.out.size); have s2 := hk2.box.v (k := 3) rfl; have s3 := (HK1.out.keep (fun q hq => hb3.block q (HK1.out.low q hq).2) hb3.size).box.v (k := 2) rfl; clear hd2 hl2 hk2 hb3) | fail))
      all_goals (go_wp2_with fail; go_meet)
      all_goals exact ⟨⟨ls1, X1, vs1, B1, pv1, bv1, ls2, X2, vs2, B2, pv2, sv2, w2.heap.size, HD1.out, HL1.out, HK1.out.keep (fun q hq => HB3.out.block q (HK1.out.low q hq).2) HB3.out.size, HD2.out, HL2.out, HK2.out, fun q hq => (HK1.out.low q hq).2, HB2.out.size⟩, HB3c.out⟩
    case rest =>
      obtain ⟨hmid, hbm⟩ := hcut
      have HWM := hid (way_mid hmid HN.out HM.out HRR.out HRQ.out HDD.out HQV.out hbm.size)
      have HBM := hid hbm
      clear hmid hbm x0 x1 x2 y0 y1 y2 HT HU
      go_wp2_with fail
      refine HWM.out.mono ?_
      rintro e w4 ⟨⟨v, rfl⟩, a4, c4, N4, l4, w5, hrun, hst, hN, hpl, hb5⟩
      have HST := hid hst; have HN4 := hid hN; have HPL := hid hpl; have HB5 := hid hb5
      clear hst hN hpl hb5 HWM
      have HRUN := hid hrun
      clear hrun
      rename_i K1 hK1 K2 hK2
      refine hK2 _ _ ?_
      show K1 _ _
      refine hK1 _ _ ?_
      clear hK1 hK2
      refine wp_seq ?_
      refine wp_region_lit ?_
      refine wpList_step fun K hK => ?_
      have HK := hid hK
      clear hK
      go_simp
      refine HK.out _ _ ?_
      clear HK
      refine wpList_step fun K hK => ?_
      have HK := hid hK
      clear hK
      go_simp
      refine HK.out _ _ ?_
      clear HK
      refine wpList_step fun K hK => ?_
      refine step_append_run rfl (.tmp 29) (.tmp 30) 27 rfl _ _ (by rfl) (by rfl) _ _ HRUN.out ?_
      refine hK _ _ ?_
      clear hK
      go_wp2_with fail
      (try simp only [Exit.inBlock, Exit.then])
      refine bodyPost_ret (results_tmp2 rfl _ _ _) rfl ?_
      exact ⟨HB1.out.trans ((HBM.out.trans HB5.out).mono HB1.out.size), .inr ⟨HQV.out, a4, c4, N4, l4, rfl, HST.out, HN4.out, HPL.out⟩⟩
end Go.Proofs.YtokbgbbkopmngaaGreat
/- The document's Over. -/
namespace Go.Proofs.YtokbgbbkopmngaaGreat
open Go.RowKit Go.Deep Go.Shelf

def left0F : Fo → Int → Int
  | .nil, r => r
  | .node _ _ _ l s, r => if r < 0 then r else left0F s (left0F l (r - 1))
theorem left0F_bd : ∀ (F : Fo) (r : Int), -1 ≤ r → -1 ≤ left0F F r ∧ left0F F r ≤ r
  | .nil, r, h => ⟨h, Int.le_refl _⟩
  | .node _ _ x l s, r, h => by
    unfold left0F
    split
    · omega
    · have h1 := left0F_bd l (r - 1) (by omega)
      have h2 := left0F_bd s (left0F l (r - 1)) h1.1
      omega
theorem left0F_neg (F : Fo) (r : Int) (h : r < 0) : left0F F r = r := by
  cases F with
  | nil => rfl
  | node => unfold left0F; rw [if_pos h]
theorem left0F_eq : ∀ (F : Fo) (r : Int), 0 ≤ left0F F r → left0F F r = r - nodesF F
  | .nil, r, _ => by simp [left0F, nodesF]
  | .node _ _ x l s, r, h => by
    unfold left0F at h ⊢
    by_cases hr : r < 0
    · rw [if_pos hr] at h; omega
    · rw [if_neg hr] at h ⊢
      have h1 : 0 ≤ left0F l (r - 1) := by
        rcases Int.lt_or_le (left0F l (r - 1)) 0 with h2 | h2
        · rw [left0F_neg s _ h2] at h; omega
        · exact h2
      have e1 := left0F_eq l (r - 1) h1
      have e2 := left0F_eq s _ h
      rw [e2, e1]
      simp only [nodesF]
      omega
theorem left0F_nn : ∀ (F : Fo) (r : Int), (nodesF F : Int) ≤ r → 0 ≤ left0F F r
  | .nil, r, h => by simpa [left0F, nodesF] using h
  | .node _ _ x l s, r, h => by
    simp only [nodesF] at h
    unfold left0F
    rw [if_neg (by omega)]
    have h1 := left0F_nn l (r - 1) (by omega)
    have e1 := left0F_eq l (r - 1) h1
    exact left0F_nn s _ (by omega)
def OverOk (k : Nat) : Prop := ∀ (x : ByteArray × Int) (l : Fo) (a : Option Addr) (c : Nat) (room : Int) (w : World), nodesF l ≤ k → TmAt w x a c l → 0 ≤ room → room ≤ 1048576 →
  Calls Tryz.prog 13 #[.agg #[.string x.1, .int .i64 x.2, .slice a (lenF l) c], .int .i64 room] w fun e w' => e = .returned (.int .i64 (left0F l (room - 1))) ∧ Below w.heap.size w w'
set_option maxRecDepth 100000 in
set_option maxHeartbeats 2000000 in
theorem over_all : ∀ k, OverOk k := by
  intro k
  induction k using Nat.strongRecOn with
  | _ k ih =>
    intro x l a c room w hk hT hr0 hr4
    have HT := hid hT
    have IH : Hid (∀ j, j < k → OverOk j) := ih
    have O0 := hid (One.new w x a (lenF l) c)
    have hn0 := len_nodes l
    have hln : lenF l ≤ 2932031007402 := by have := hT.sizes.few; omega
    clear hT ih
    go_enter Tryz.func13, Tryz.ntmps13
    go_wp2_with fail
    generalize w.alloc (.cells #[.string x.1, .int .i64 x.2, .slice a (lenF l) c] 26) = V at O0 ⊢
    go_loopw [1, 5] (fun rv iv wr => ∃ (j : Nat) (r : Int), j ≤ lenF l ∧ rv = .int .i64 r ∧ iv = .int .i64 j ∧ -1 ≤ r ∧ r ≤ 1048576 ∧ One w x a (lenF l) c wr ∧ left0F (dropF j l) r = left0F l (room - 1)) (fun _ iv _ => lenF l - (intOf iv).toNat)
    case atStart => exact ⟨0, room - 1, Nat.zero_le _, rfl, rfl, by omega, by omega, O0.out, by rw [drop_zero]⟩
    case round =>
      obtain ⟨j, r, hj, rfl, rfl, hr1, hr2, hO, hm⟩ := hrel
      have HO := hid hO
      have t2 := hO.t.c2
      by_cases hlt : j < lenF l
      · obtain ⟨b1, o1, rfl, hk1⟩ := HT.out.args.get (by omega)
        obtain ⟨z, a1, c1, l1, kd⟩ := hk1.kid (k := j) hlt
        have kd' := kd.below hO.low
        obtain ⟨B1, O1', s1⟩ := kd.split
        rw [s1] at hm
        have p0 := kd'.name; have p1 := kd'.sym; have p2 := kd'.list
        by_cases hr : r < 0
        · rw [left0F_neg _ r hr] at hm
          clear kd kd' s1 hk1 hO
          go_wp2_with fail
          go_ret
          exact ⟨by rw [← hm] <;> rfl, HO.out.low⟩
        · have HC := hid (IH.out (nodesF l1) (by have := kd.less; omega) z l1 a1 c1 r wr (Nat.le_refl _) kd'.at_ (by omega) hr2)
          have hstep : left0F (dropF (j + 1) l) (left0F l1 (r - 1)) = left0F l (room - 1) := by
            rw [← hm]
            conv => rhs; unfold left0F
            rw [if_neg hr]
          have HS := hid hstep
          have hbd := left0F_bd l1 (r - 1) (by omega)
          clear kd kd' s1 hk1 hO hstep
          go_wp2_with fail
          refine HC.out.mono ?_
          rintro e w3 ⟨rfl, hb3⟩
          have HO4 := hid (HO.out.below hb3)
          clear hb3 p0 p1 p2 t2
          go_wp2_with fail
          go_roundw
          case rel => exact ⟨j + 1, left0F l1 (r - 1), by omega, rfl, by go_num, hbd.1, by omega, HO4.out, HS.out⟩
          case measure => simp [intOf]; omega
      · have e1 : j = lenF l := by omega
        rw [e1, drop_end] at hm
        have hm' : r = left0F l (room - 1) := hm
        go_wp2_with fail
        go_ret
        exact ⟨by rw [hm'] <;> rfl, HO.out.low⟩
/-- Over: are there more nodes than these? -/
theorem over_any (x : ByteArray × Int) (l : Fo) (a : Option Addr) (c : Nat) (most : Nat) (w : World) (hT : TmAt w x a c l) (hm : most ≤ 1048576) :
    Calls Tryz.prog 5 #[.agg #[.string x.1, .int .i64 x.2, .slice a (lenF l) c], .int .i64 most] w fun e w' => e = .returned (.bool (decide (most < nodesF l + 1))) ∧ Below w.heap.size w w' := by
  have O0 := hid (One.new w x a (lenF l) c)
  have b1 := alloc_below0 w (.cells #[.string x.1, .int .i64 x.2, .slice a (lenF l) c] 26)
  have HC := hid (over_all (nodesF l) x l a c most _ (Nat.le_refl _) (hT.below b1) (by omega) (by omega))
  have B1 := hid b1
  have t0 := O0.out.t.c0; have t1 := O0.out.t.c1; have t2 := O0.out.t.c2
  have hd : decide (left0F l ((most : Int) - 1) < 0) = decide (most < nodesF l + 1) := by
    by_cases h : 0 ≤ left0F l ((most : Int) - 1)
    · have := left0F_eq l _ h
      rw [decide_eq_false (by omega), decide_eq_false (by omega)]
    · rw [decide_eq_true (by omega), decide_eq_true]
      rcases Nat.lt_or_ge most (nodesF l + 1) with h1 | h1
      · exact h1
      · exact absurd (left0F_nn l ((most : Int) - 1) (by omega)) h
  have HD := hid hd
  clear hT b1 hd
  go_enter Tryz.func5, Tryz.ntmps5
  go_wp2_with fail
  refine HC.out.mono ?_
  rintro e w1 ⟨rfl, hb⟩
  have HL := hid (B1.out.trans (hb.mono B1.out.size))
  clear hb HC
  go_wp2_with fail
  go_ret
  exact ⟨by rw [← HD.out] <;> rfl, HL.out⟩
end Go.Proofs.YtokbgbbkopmngaaGreat
/- Down whole; the walk of DeriveDown. -/
namespace Go.Proofs.YtokbgbbkopmngaaGreat
open Go.RowKit Go.Deep

theorem DnEnd.play {S : Sg} {t : Tn} {ls : List Bs} (h : DnEnd S t ls) : playN S t (ls.map Bs.st) 0 = (some (canonT S t), 0) := by
  have := Runs.play (S := S) [] 0 h.runs
  rw [List.append_nil] at this
  exact this
/-- What Down answers. -/
def DownEnd (L : List Sym) (t : Tn) (w : World) (e : Ending) (w' : World) : Prop := ∃ a c ls, e = .returned (.slice a ls.length c) ∧ StpsAt w' a ls.length (ls.map Bs.st) ∧ ls.length ≤ c ∧ c ≤ maxLen ∧ DnEnd (sgOf L) t ls ∧ Below w.heap.size w w'
end Go.Proofs.YtokbgbbkopmngaaGreat
/- The walk of DeriveWay. -/
namespace Go.Proofs.YtokbgbbkopmngaaGreat
open Go.RowKit Go.Deep

/-- The law's argument, as its cells. -/
abbrev wyC (p : Option Addr) (n c : Nat) (A B : Tn) (a b : Option Addr) (ca cb : Nat) (z : Value) : Array Value :=
  #[.slice p n c, .string A.1.1, .int .i64 A.1.2, .slice a (lenF A.2) ca, .string B.1.1, .int .i64 B.1.2, .slice b (lenF B.2) cb, z]
set_option maxRecDepth 100000 in
set_option maxHeartbeats 4000000 in
theorem way_walk (p : Option Addr) (n c : Nat) (l : List Sym) (A B : Tn) (a b : Option Addr) (ca cb : Nat) (z : Value) (w : World)
    (hS : SigAt w p n l) (hA : TmAt w A.1 a ca A.2) (hB : TmAt w B.1 b cb B.2) (hAc : Cln A.2) (hBc : Cln B.2) :
    Calls Tryz.prog 3 #[.agg (wyC p n c A B a b ca cb z)] w fun e w' => e = .returned (.bool true) ∧ Below w.heap.size w w' := by
  obtain ⟨W0, hW0⟩ : ∃ W0, w.alloc (.cells (wyC p n c A B a b ca cb z) 29) = W0 := ⟨_, rfl⟩
  have hb0 : Below w.heap.size w W0 := by rw [← hW0]; exact alloc_below0 _ _
  have X0 : Box W0 w.heap.size 29 (wyC p n c A B a b ca cb z) := by rw [← hW0]; exact Box.new _ _ _
  have HS := hid hS; have HA := hid hA; have HB := hid hB; have HAC := hid hAc; have HBC := hid hBc; have HX0 := hid X0; have HB0 := hid hb0
  clear hS hA hB hAc hBc X0 hb0
  go_enter Tryz.func3, Tryz.ntmps3
  go_wp2_with fail
  clear hW0
  refine (head_any W0).mono ?_
  rintro e w1 ⟨rfl, hb1⟩
  have X1 := HX0.out.below hb1
  have hbw1 : Below w.heap.size w w1 := HB0.out.trans (hb1.mono HB0.out.size)
  have HX1 := hid X1; have HB1 := hid hbw1
  have c1 := X1.v (k := 1) rfl; have c2 := X1.v (k := 2) rfl; have c3 := X1.v (k := 3) rfl
  clear X1 hb1 hbw1
  obtain ⟨ov, hov⟩ : ∃ ov, decide (60 < nodesF A.2 + 1) = ov := ⟨_, rfl⟩
  have OV := over_any A.1 A.2 a ca 60 w1 (HA.out.below HB1.out) (by omega)
  rw [hov] at OV
  have HOV := hid hov; have HOVC := hid OV
  clear hov OV
  go_wp2_with fail
  refine HOVC.out.mono ?_
  rintro e w2 ⟨rfl, hb2⟩
  have X2 := HX1.out.below hb2
  have hbw2 : Below w.heap.size w w2 := HB1.out.trans (hb2.mono HB1.out.size)
  have HX2 := hid X2; have HB2 := hid hbw2
  clear c1 c2 c3
  have c4 := X2.v (k := 4) rfl; have c5 := X2.v (k := 5) rfl; have c6 := X2.v (k := 6) rfl
  clear X2 hb2 hbw2 HOVC
  obtain ⟨ou, hou⟩ : ∃ ou, decide (60 < nodesF B.2 + 1) = ou := ⟨_, rfl⟩
  have OU := over_any B.1 B.2 b cb 60 w2 (HB.out.below HB2.out) (by omega)
  rw [hou] at OU
  have HOU := hid hou; have HOUC := hid OU
  clear hou OU
  go_wp2_with fail
  refine HOUC.out.mono ?_
  rintro e w3 ⟨rfl, hb3⟩
  have X3 := HX2.out.below hb3
  have hbw3 : Below w.heap.size w w3 := HB2.out.trans (hb3.mono HB2.out.size)
  have HX3 := hid X3; have HB3 := hid hbw3
  clear c4 c5 c6
  have c0 := X3.v (k := 0) rfl; have c1 := X3.v (k := 1) rfl; have c2 := X3.v (k := 2) rfl; have c3 := X3.v (k := 3) rfl
  clear X3 hb3 hbw3 HOUC
  obtain ⟨rt, hrt⟩ : ∃ rt, rightB l A = rt := ⟨_, rfl⟩
  have RR := rright_any p n c l A a ca w3 (HS.out.below HB3.out) (HA.out.below HB3.out)
  rw [hrt] at RR
  have HRT := hid hrt; have HRR := hid RR
  clear hrt RR
  go_wp2_with fail
  refine HRR.out.mono ?_
  rintro e w4 ⟨rfl, hb4⟩
  have X4 := HX3.out.below hb4
  have hbw4 : Below w.heap.size w w4 := HB3.out.trans (hb4.mono HB3.out.size)
  have HX4 := hid X4; have HB4 := hid hbw4
  clear c0 c1 c2 c3 HRR
  have c0 := X4.v (k := 0) rfl; have c4 := X4.v (k := 4) rfl; have c5 := X4.v (k := 5) rfl; have c6 := X4.v (k := 6) rfl
  clear X4 hb4 hbw4
  obtain ⟨ru, hru⟩ : ∃ ru, rightB l B = ru := ⟨_, rfl⟩
  have RU := rright_any p n c l B b cb w4 (HS.out.below HB4.out) (HB.out.below HB4.out)
  rw [hru] at RU
  have HRU := hid hru; have HRUC := hid RU
  clear hru RU
  go_wp2_with fail
  refine HRUC.out.mono ?_
  rintro e w5 ⟨rfl, hb5⟩
  have X5 := HX4.out.below hb5
  have hbw5 : Below w.heap.size w w5 := HB4.out.trans (hb5.mono HB4.out.size)
  have HX5 := hid X5; have HB5 := hid hbw5
  clear c0 c4 c5 c6 HRUC
  have c0 := X5.v (k := 0) rfl; have c1 := X5.v (k := 1) rfl; have c2 := X5.v (k := 2) rfl; have c3 := X5.v (k := 3) rfl
  have c4 := X5.v (k := 4) rfl; have c5 := X5.v (k := 5) rfl; have c6 := X5.v (k := 6) rfl
  clear X5 hb5 hbw5
  cases ov with
  | true =>
    go_wp2_with fail
    go_ret
    exact ⟨rfl, HB5.out⟩
  | false =>
  cases ou with
  | true =>
    go_wp2_with fail
    go_ret
    exact ⟨rfl, HB5.out⟩
  | false =>
  cases rt with
  | false =>
    go_wp2_with fail
    go_ret
    exact ⟨rfl, HB5.out⟩
  | true =>
  cases ru with
  | false =>
    go_wp2_with fail
    go_ret
    exact ⟨rfl, HB5.out⟩
  | true =>
    have hnA : nodesF A.2 ≤ 59 := by have := of_decide_eq_false HOV.out; omega
    have hnB : nodesF B.2 ≤ 59 := by have := of_decide_eq_false HOU.out; omega
    have HNA := hid hnA; have HNB := hid hnB
    have HWY := hid (way_any p n c l A B a b ca cb w5 (HS.out.below HB5.out) (HA.out.below HB5.out) (HB.out.below HB5.out) (by unfold sizeT; omega) (by unfold sizeT; omega) HRT.out HRU.out HAC.out HBC.out)
    clear hnA hnB
    obtain ⟨q, hq⟩ : ∃ q, (cmpN (canonT (sgOf l) A) (canonT (sgOf l) B) == 0) = q := ⟨_, rfl⟩
    unfold WayEnd at HWY
    rw [hq] at HWY
    have HQ := hid hq
    clear hq
    go_wp2_with fail
    refine HWY.out.mono ?_
    rintro e w6 ⟨hb6, hend⟩
    have hbw6 : Below w.heap.size w w6 := HB5.out.trans (hb6.mono HB5.out.size)
    have X6 := HX5.out.below hb6
    have HX6 := hid X6; have HB6 := hid hbw6
    have HEQ := equal_any p n c l A B a b ca cb w6 (HS.out.below hbw6) (HA.out.below hbw6) (HB.out.below hbw6) (by have := HNA.out; omega) (by have := HNB.out; omega)
    rw [HQ.out] at HEQ
    have HEQ := hid HEQ
    clear c0 c1 c2 c3 c4 c5 c6 HWY
    have c0 := X6.v (k := 0) rfl; have c1 := X6.v (k := 1) rfl; have c2 := X6.v (k := 2) rfl; have c3 := X6.v (k := 3) rfl
    have c4 := X6.v (k := 4) rfl; have c5 := X6.v (k := 5) rfl; have c6 := X6.v (k := 6) rfl
    clear X6 hbw6 hb6
    rcases hend with ⟨hq, rfl⟩ | ⟨hq, la, lc, N, ls, rfl, hst, hN, hpl⟩
    · subst hq
      go_wp2_with fail
      refine HEQ.out.mono ?_
      rintro e w7 ⟨rfl, hb7⟩
      have HB7 := hid (HB6.out.trans (hb7.mono HB6.out.size))
      clear hb7
      go_wp2_with fail
      go_ret
      exact ⟨rfl, HB7.out⟩
    · subst hq
      have HST := hid hst; have HPL := hid hpl; have HN := hid hN
      clear hst hpl
      go_wp2_with fail
      refine HEQ.out.mono ?_
      rintro e w7 ⟨rfl, hb7⟩
      have X7 := HX6.out.below hb7
      have hbw7 := HB6.out.trans (hb7.mono HB6.out.size)
      have hst7 := HST.out.below hb7
      have HPY := rplay_any p n c l A a ca la N lc ls w7 (HS.out.below hbw7) (HA.out.below hbw7) (by have := HNA.out; omega) HRT.out HAC.out hst7
      rw [HPL.out] at HPY
      have HPY := hid HPY; have HB7 := hid hbw7; have HX7 := hid X7
      clear c0 c1 c2 c3 c4 c5 c6 HEQ
      have c0 := X7.v (k := 0) rfl; have c1 := X7.v (k := 1) rfl; have c2 := X7.v (k := 2) rfl; have c3 := X7.v (k := 3) rfl
      clear hb7 X7 hbw7 hst7
      go_wp2_with fail
      refine HPY.out.mono ?_
      rintro e w8 ⟨a8, c8, he8, hT8, hb8⟩
      have he8 : e = .returned (.tuple #[.agg #[.string B.1.1, .int .i64 B.1.2, .slice a8 (lenF B.2) c8], .int .i64 0, .int .i64 0]) := he8
      subst he8
      have hT8 : TmAt w8 B.1 a8 c8 B.2 := hT8
      obtain ⟨V8, hV8⟩ : ∃ V8, w8.alloc (.cells #[.string B.1.1, .int .i64 B.1.2, .slice a8 (lenF B.2) c8] 26) = V8 := ⟨_, rfl⟩
      have hb88 : Below w8.heap.size w8 V8 := by rw [← hV8]; exact alloc_below0 _ _
      have C8 : Box V8 w8.heap.size 26 (tmC B a8 c8) := by rw [← hV8]; exact Box.new _ _ _
      have hb78 : Below w7.heap.size w7 V8 := hb8.trans (hb88.mono hb8.size)
      have hbw8 := HB7.out.trans (hb78.mono HB7.out.size)
      have X8 := HX7.out.below hb78
      have HEX := hid (exact_any B.1 B.2 a8 b c8 cb V8 (hT8.below hb88) (HB.out.below hbw8))
      have HB8 := hid hbw8
      clear c0 c1 c2 c3 HPY
      have c4 := X8.v (k := 4) rfl; have c5 := X8.v (k := 5) rfl; have c6 := X8.v (k := 6) rfl
      have p0 := C8.v (k := 0) rfl; have p1 := C8.v (k := 1) rfl; have p2 := C8.v (k := 2) rfl
      clear hT8 hb8 hb88 C8 hb78 hbw8 X8
      go_wp2_with fail
      refine HEX.out.mono ?_
      rintro e w9 ⟨rfl, hb9⟩
      have HB9 := hid (HB8.out.trans (hb9.mono HB8.out.size))
      clear hb9
      go_wp2_with fail
      go_ret
      exact ⟨rfl, HB9.out⟩
end Go.Proofs.YtokbgbbkopmngaaGreat
/- How DeriveWay's argument is opened, however great it is: a signature and two terms; what stands behind them is any value. -/
namespace Go.Proofs.YtokbgbbkopmngaaGreat
open Go.ChangeShapes Go.WideShapes Go.ChangeAt Go.RowKit Go.Deep

set_option maxRecDepth 100000 in
theorem some_wide {H : Type} {enc : TypeId × Value → H} {W : World} {r : Reach} {b0 : Nat} {v : Value} {dd : DataW H} {ps : List MemPlace} (hv : Value.okWide Tryz.prog W r b0 29 v)
    (h : DataW.Trod enc Tryz.prog W 0 (fun _ => true) true 29 v dd ps) (hz : ∀ m ∈ dd.weights Tryz.prog 29, m ≤ 140737488351232) :
    ∃ (p : Option Addr) (n c : Nat) (l : List Sym) (A B : Tn) (a b : Option Addr) (ca cb : Nat) (z : Value),
      v = .agg #[.slice p n c, .string A.1.1, .int .i64 A.1.2, .slice a (lenF A.2) ca, .string B.1.1, .int .i64 B.1.2, .slice b (lenF B.2) cb, z] ∧ SigAt W p n l ∧ TmAt W A.1 a ca A.2 ∧ TmAt W B.1 b cb B.2 := by
  obtain ⟨cs, rfl, hsz⟩ := okWide_struct Tryz.underlying29 hv
  obtain ⟨fuel, hf⟩ := h
  obtain ⟨xs, n, hfuel, hx, hl, hlen, hff⟩ := DataW.trod_struct Tryz.underlying29 hf
  rw [Tryz.cells29] at hsz
  simp only [Value.cells] at hff hl
  obtain ⟨cl⟩ := cs
  match xs, hlen, cl, hsz with
  | [y0, y1, y2, y3], _, [v0, v1, v2, v3, v4, v5, v6, v7], _ =>
    have g0 := hff 0 _ rfl
    have g1 := hff 1 _ rfl
    have g2 := hff 2 _ rfl
    simp [Tryz.cells23, Tryz.cells26] at g0 g1 g2
    have hd : dd = .agg [y0.1, y1.1, y2.1, y3.1] := by
      have := congrArg Prod.fst hx
      simpa using this
    subst hd
    obtain ⟨q0, ln0, cp0, l, e0, hS, _⟩ := sig_open g0
    subst e0
    obtain ⟨pa, a, c, la, ea, hA, _⟩ := term_open n _ _ g1 (.inl fun m hm => hz m (by simp [DataW.weights, Tryz.underlying29, DataW.weightsEach, hm]))
    obtain ⟨pb, b, d, lb, eb, hB, _⟩ := term_open n _ _ g2 (.inl fun m hm => hz m (by simp [DataW.weights, Tryz.underlying29, DataW.weightsEach, hm]))
    simp at ea eb
    obtain ⟨rfl, rfl, rfl⟩ := ea
    obtain ⟨rfl, rfl, rfl⟩ := eb
    exact ⟨q0, ln0, cp0, l, (pa, la), (pb, lb), a, b, c, d, v7, rfl, hS, hA, hB⟩
/-- Within the first form's reach. -/
theorem weights_le {H : Type} {ts : List TypeId} {ds : List (DataW H)} {j : Nat} {d : DataW H} {t : TypeId} (h : (DataW.weightsEach Tryz.prog ts ds).all (· ≤ reachBytes) = true) (ht : ts[j]? = some t) (hd : ds[j]? = some d) : ∀ m ∈ d.weights Tryz.prog t, m ≤ 140737488351232 := fun m hm => by
    have := List.all_eq_true.1 h _ (DataW.weights_mem_each ht hd m hm)
    have e : reachBytes = 140737488351232 := rfl
    rw [e] at this
    simpa using this
end Go.Proofs.YtokbgbbkopmngaaGreat
namespace Go.Proofs.YtokbgbbkopmngaaGreat
open Go.ChangeShapes Go.WideShapes Go.ChangeAt Go.RowKit Go.Deep

set_option maxRecDepth 100000 in
theorem deriveWay_lifted (os : Os) (started : os.Started) (H : Type) (enc : TypeId × Value → H) :
    ReturnsInHanded {} Tryz.checked os 3 .any (Rows.deriveWaySpec.pre6 enc Tryz.prog Tryz.f3 Rows.deriveWayRow.domain false) (Rows.deriveWaySpec.post enc Tryz.prog Tryz.f3 false true false false) := by
  refine returnsInHanded_of_change_sized (C := Tryz.checked) own started (by kernel_rfl) Tryz.func3
    (ChangeSpec.witness6 (enc := enc) (C := Tryz.checked) false ⟨#[], #[.agg #[.slice none 0 0, .string .empty, .int .i64 0, .slice none 0 0, .string .empty, .int .i64 0, .slice none 0 0, .slice none 0 0]], []⟩ 8 (by kernel_rfl) (by kernel_rfl) (by kernel_rfl) (by kernel_rfl)) ?_
  intro W base args ds gs before hval0 hW hcnd hsz0 _
  have hval : ∀ (j : Nat) t v, Tryz.f3.params[j]? = some t → args[j]? = some v → Value.okWide Tryz.prog W .any base t v := hval0
  have hsz : (DataW.weightsEach Tryz.prog (Tryz.f3.params.toList ++ Rows.deriveWaySpec.plain.varTypes Tryz.prog) (ds ++ gs)).all (· ≤ reachBytes) = true := hsz0
  have hW' := hW
  obtain ⟨p, q, hA0, hV, rfl, hfz, hnd⟩ := hW
  have hA : DataW.TrodAll enc Tryz.prog W 0 (fun _ => true) true Tryz.f3.params.toList args.toList ds p := hA0
  rw [Tryz.params3] at hA hval hsz
  obtain ⟨v0, vs0, d0, ds0, p0, q0, hargs, rfl, rfl, h0, r0⟩ := trodAll_cons hA
  obtain ⟨rfl, rfl, rfl⟩ := trodAll_nil r0
  obtain rfl : args = #[v0] := by cases args; simp_all
  obtain ⟨rfl, rfl⟩ := trodVars_none hV
  have lt0 : ∀ x ∈ p0, x.block < W.heap.size := by obtain ⟨m, hm⟩ := h0; exact DataW.trod_lt m _ _ _ hm
  obtain ⟨p, n, c, l, A, B, a, b, ca, cb, z, rfl, hS, hTA, hTB⟩ := some_wide (hval 0 29 v0 rfl rfl) h0 (weights_le hsz (j := 0) rfl rfl)
  clear hA0 hval0 hsz0 hsz
  have hw := way_walk p n c l (clT A) (clT B) a b ca cb z W hS (clF_tm hTA) (clF_tm hTB) (cln_cl A.2) (cln_cl B.2)
  unfold wyC clT at hw
  simp only [clF_len] at hw
  refine hw.mono fun e W' ⟨he, bel⟩ => ?_
  subst he
  exact ⟨_, rfl, _, _, _, [], _, [], hW', trodAll_mk1 (shut_bool Tryz.underlying4 _), (trodAll_cons_mk (Below.trod laidOut (by kernel_rfl) (of_decide_eq_true (by kernel_rfl)) h0 bel lt0) trodAll_mk0), rfl, bel.frame _, fun h => by cases h⟩

theorem deriveWay_holds : Rows.DeriveWaySaid :=
  OpenClaim.holds_of_wide 3 Tryz.f3 rfl rfl rfl rfl rfl rfl rfl ⟨rfl, rfl, rfl, rfl, rfl⟩ rfl rfl rfl rfl rfl (by kernel_rfl) Tryz.func3 (by kernel_rfl)
    (of_decide_eq_true (by kernel_rfl)) (by unfold Func.isWrapper; first | (rw [if_pos (by decide +kernel)]; kernel_rfl) | (rw [if_neg (by decide +kernel)]; exact ⟨rfl, rfl⟩))
    (fun os started H enc _ => deriveWay_lifted os started H enc)
end Go.Proofs.YtokbgbbkopmngaaGreat
