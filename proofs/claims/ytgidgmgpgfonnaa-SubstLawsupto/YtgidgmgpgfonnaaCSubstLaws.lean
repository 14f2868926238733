/- For every signature, two lists of binds, term, names and number, of bulk at most 1048576 together, SubstLaws returns true: of two substitutions and a right term, first a, then b, makes what their composition makes; a canonical form and a restriction to the term's variables do for it; nothing makes a canonical term into itself; the condition is the second form's bound. -/
import Derived.Laws.CopyRow
import Derived.Lib.SliceRun
import Derived.Deep.RegionLaw
import Derived.Shelf.RegionOpenPlain
import Derived.Deep.DeepCutAuto
import Derived.BigQuiet
import Derived.Shelf.SlicesQ.Load
import Derived.Deep.RegionHeld3
import Derived.Test.YtgidgmgpgfonnaaM9
/- Rows of cells overwritten from a place on. -/
namespace Go.Proofs.Ytgidgmgpgfonnaa
open Go.RowKit Go.Deep

theorem cell_box {W : World} {b i : Nat} {T : TypeId} {cs : Array Value} {v : Value} (h : W.heap[b]? = some (.cells cs T (0, 0))) (hv : cs[i]? = some v) : W.cell? ⟨b, i, none⟩ = some v := by simp [World.cell?, h, hv]
theorem ovr_len {cur : List Value} {o : Nat} {vs : List Value} (h : o + vs.length ≤ cur.length) : (ovr cur o vs).length = cur.length := by
  unfold ovr
  simp only [List.length_append, List.length_take, List.length_drop]
  omega
theorem set_far {W : World} {g i q : Nat} (h : q ≠ g) (a : Value) : (W.setCell ⟨g, i, none⟩ a).heap[q]? = W.heap[q]? := Below.heap_setCell W ⟨g, i, none⟩ a q h
theorem setCells_fr {g : Nat} : ∀ (vs : List Value) (o : Nat) (W : World), Fr (fun q => q = g) W (W.setCells g o vs)
  | [], _, W => Fr.refl _ W
  | v :: r, o, W => by
    rw [World.setCells]
    exact Fr.trans ⟨(Below.refl _ W).setCell (p := ⟨g, o, none⟩) (Nat.zero_le _) v, fun q _ hq => set_far hq v⟩ (setCells_fr r (o + 1) _)
end Go.Proofs.Ytgidgmgpgfonnaa
/- Stable orders of lists, plainly. -/
namespace Go.Proofs.Ytgidgmgpgfonnaa
/-- A strict weak order. -/
structure Swo {α : Type} (lt : α → α → Bool) : Prop where
  irr : ∀ x, lt x x = false
  tr : ∀ x y z, lt x y = true → lt y z = true → lt x z = true
  neg : ∀ x y z, lt x z = true → lt x y = true ∨ lt y z = true
section
variable {α : Type} {lt : α → α → Bool}
theorem Swo.asy (h : Swo lt) {x y : α} (hx : lt x y = true) : lt y x = false := by
  cases hy : lt y x with
  | false => rfl
  | true => have := h.tr _ _ _ hx hy; rw [h.irr] at this; cases this
/-- Not above: x may stand ahead of y. -/
def Le (lt : α → α → Bool) (x y : α) : Prop := lt y x = false
theorem Swo.le_trans (h : Swo lt) {x y z : α} (h1 : Le lt x y) (h2 : Le lt y z) : Le lt x z := by
  unfold Le at *
  cases hz : lt z x with
  | false => rfl
  | true =>
    rcases h.neg z y x hz with h3 | h3
    · rw [h2] at h3; cases h3
    · rw [h1] at h3; cases h3
theorem Swo.lt_le (h : Swo lt) {x y z : α} (h1 : lt x y = true) (h2 : Le lt y z) : lt x z = true := by
  rcases h.neg x z y h1 with h3 | h3
  · exact h3
  · unfold Le at h2; rw [h2] at h3; cases h3
theorem Swo.le_lt (h : Swo lt) {x y z : α} (h1 : Le lt x y) (h2 : lt y z = true) : lt x z = true := by
  rcases h.neg y x z h2 with h3 | h3
  · unfold Le at h1; rw [h1] at h3; cases h3
  · exact h3
def Sd (lt : α → α → Bool) (l : List α) : Prop := l.Pairwise (Le lt)
/-- Of one kind. -/
def eqv (lt : α → α → Bool) (z x : α) : Bool := !lt z x && !lt x z
/-- Of each kind the same, as they came. -/
def Stb (lt : α → α → Bool) (l r : List α) : Prop := l.Perm r ∧ ∀ z, l.filter (eqv lt z) = r.filter (eqv lt z)
theorem Stb.refl (l : List α) : Stb lt l l := ⟨.refl _, fun _ => rfl⟩
theorem Stb.trans {a b c : List α} (h : Stb lt a b) (k : Stb lt b c) : Stb lt a c := ⟨h.1.trans k.1, fun z => (h.2 z).trans (k.2 z)⟩
theorem Stb.app {a b c d : List α} (h : Stb lt a b) (k : Stb lt c d) : Stb lt (a ++ c) (b ++ d) := ⟨h.1.append k.1, fun z => by rw [List.filter_append, List.filter_append, h.2, k.2]⟩
theorem Stb.mem {a b : List α} (h : Stb lt a b) {x : α} : x ∈ a ↔ x ∈ b := h.1.mem_iff
theorem Stb.len {a b : List α} (h : Stb lt a b) : a.length = b.length := h.1.length_eq
/-- Two stretches of which none of the one is of a kind with one of the other. -/
theorem stb_swap (hO : Swo lt) (a b : List α) (h : ∀ x ∈ a, ∀ y ∈ b, lt y x = true) : Stb lt (a ++ b) (b ++ a) := by
  refine ⟨List.perm_append_comm, fun z => ?_⟩
  rw [List.filter_append, List.filter_append]
  by_cases ha : ∃ x ∈ a, eqv lt z x = true
  · obtain ⟨x, hx, hzx⟩ := ha
    have hb : b.filter (eqv lt z) = [] := by
      refine List.filter_eq_nil_iff.2 fun y hy hzy => ?_
      have h1 := h x hx y hy
      unfold eqv at hzx hzy
      simp only [Bool.and_eq_true, Bool.not_eq_true'] at hzx hzy
      have h2 : lt z x = true := hO.le_lt (x := z) (y := y) (z := x) hzy.2 h1
      rw [hzx.1] at h2
      cases h2
    rw [hb, List.append_nil, List.nil_append]
  · have hb : a.filter (eqv lt z) = [] := List.filter_eq_nil_iff.2 fun x hx hzx => ha ⟨x, hx, hzx⟩
    rw [hb, List.append_nil, List.nil_append]
theorem sd_app {a b : List α} (ha : Sd lt a) (hb : Sd lt b) (h : ∀ x ∈ a, ∀ y ∈ b, Le lt x y) : Sd lt (a ++ b) := List.pairwise_append.2 ⟨ha, hb, h⟩
theorem sd_parts {a b : List α} (h : Sd lt (a ++ b)) : Sd lt a ∧ Sd lt b ∧ ∀ x ∈ a, ∀ y ∈ b, Le lt x y := List.pairwise_append.1 h
/-- One thing put into a row in order: behind all that are not above it. -/
theorem put_in (hO : Swo lt) (a b : List α) (y : α) (hs : Sd lt (a ++ b)) (ha : ∀ x ∈ a, Le lt x y) (hb : ∀ x ∈ b, lt y x = true) : Sd lt (a ++ y :: b) ∧ Stb lt (a ++ b ++ [y]) (a ++ y :: b) := by
  obtain ⟨h1, h2, h3⟩ := sd_parts hs
  refine ⟨sd_app h1 (List.pairwise_cons.2 ⟨fun x hx => hO.asy (hb x hx), h2⟩) ?_, ?_⟩
  · intro x hx z hz
    rcases List.mem_cons.1 hz with rfl | hz
    · exact ha x hx
    · exact h3 x hx z hz
  · rw [List.append_assoc]
    exact (Stb.refl a).app (stb_swap hO b [y] (fun x hx z hz => by rw [List.mem_singleton.1 hz]; exact hb x hx))
/-- One thing put into a row in order: ahead of all that are not below it. -/
theorem put_ahead (hO : Swo lt) (a b : List α) (y : α) (hs : Sd lt (a ++ b)) (ha : ∀ x ∈ a, lt x y = true) (hb : ∀ x ∈ b, Le lt y x) : Sd lt (a ++ y :: b) ∧ Stb lt (y :: (a ++ b)) (a ++ y :: b) := by
  obtain ⟨h1, h2, h3⟩ := sd_parts hs
  refine ⟨sd_app h1 (List.pairwise_cons.2 ⟨hb, h2⟩) ?_, ?_⟩
  · intro x hx z hz
    rcases List.mem_cons.1 hz with rfl | hz
    · exact hO.asy (ha x hx)
    · exact h3 x hx z hz
  · have h := (stb_swap hO [y] a (fun x hx z hz => by rw [List.mem_singleton.1 hx]; exact ha z hz)).app (Stb.refl (lt := lt) b)
    simpa using h
/-- What the turning of two stretches does. -/
theorem turned (hO : Swo lt) (a1 a2 b1 b2 : List α) (ha : Sd lt (a1 ++ a2)) (hb : Sd lt (b1 ++ b2)) (h1 : ∀ x ∈ a2, ∀ y ∈ b1, lt y x = true) (h2 : ∀ x ∈ a1, ∀ y ∈ b2, Le lt x y) :
    Stb lt (a1 ++ a2 ++ (b1 ++ b2)) (a1 ++ b1 ++ (a2 ++ b2)) ∧ ∀ x ∈ a1 ++ b1, ∀ y ∈ a2 ++ b2, Le lt x y := by
  obtain ⟨_, _, ka⟩ := sd_parts ha
  obtain ⟨_, _, kb⟩ := sd_parts hb
  constructor
  · have h := ((Stb.refl (lt := lt) a1).app (stb_swap hO a2 b1 h1)).app (Stb.refl (lt := lt) b2)
    simpa [List.append_assoc] using h
  · intro x hx y hy
    rcases List.mem_append.1 hx with hx | hx <;> rcases List.mem_append.1 hy with hy | hy
    · exact ka x hx y hy
    · exact h2 x hx y hy
    · exact hO.asy (h1 y hy x hx)
    · exact kb x hx y hy
/-- Both halves put in order make the whole in order. -/
theorem halves {l c1 c2 d1 d2 : List α} (h : Stb lt l (c1 ++ c2)) (h1 : Stb lt c1 d1) (h2 : Stb lt c2 d2) (s1 : Sd lt d1) (s2 : Sd lt d2) (hle : ∀ x ∈ c1, ∀ y ∈ c2, Le lt x y) : Sd lt (d1 ++ d2) ∧ Stb lt l (d1 ++ d2) :=
  ⟨sd_app s1 s2 fun x hx y hy => hle x (h1.mem.2 hx) y (h2.mem.2 hy), h.trans (h1.app h2)⟩
theorem sd_at {l : List α} (h : Sd lt l) {i j : Nat} (hi : i < l.length) (hj : j < l.length) (hij : i ≤ j) (hO : Swo lt) : Le lt l[i] l[j] := by
  rcases Nat.lt_or_eq_of_le hij with hij | rfl
  · exact List.pairwise_iff_getElem.1 h i j hi hj hij
  · exact hO.irr _
end
end Go.Proofs.Ytgidgmgpgfonnaa
/- Rows of elements of three cells each, read and written element by element. -/
namespace Go.Proofs.Ytgidgmgpgfonnaa
open Go.RowKit Go.Deep

/-- How an element lies in its cells. -/
structure Enc {α : Type} (enc : α → List Value) : Prop where
  len : ∀ x, (enc x).length = 4
  one : ∀ x, ∀ v ∈ enc x, v.oneCell' = true
section
variable {α : Type} {enc : α → List Value}
theorem all_len (E : Enc enc) : ∀ l : List α, (l.flatMap enc).length = l.length * 4
  | [] => rfl
  | x :: r => by
    rw [List.flatMap_cons, List.length_append, all_len E r, E.len, List.length_cons]
    omega
theorem all_drop (E : Enc enc) : ∀ (l : List α) (i : Nat), (l.flatMap enc).drop (i * 4) = (l.drop i).flatMap enc
  | l, 0 => by simp
  | [], i + 1 => by simp
  | x :: r, i + 1 => by
    rw [List.flatMap_cons, List.drop_succ_cons, ← all_drop E r i, List.drop_append, List.drop_eq_nil_of_le (by rw [E.len]; omega), List.nil_append, E.len]
    congr 1
    omega
theorem all_take (E : Enc enc) : ∀ (l : List α) (i : Nat), (l.flatMap enc).take (i * 4) = (l.take i).flatMap enc
  | l, 0 => by simp
  | [], i + 1 => by simp
  | x :: r, i + 1 => by
    rw [List.flatMap_cons, List.take_succ_cons, List.flatMap_cons, ← all_take E r i, List.take_append, List.take_of_length_le (by rw [E.len]; omega), E.len]
    congr 2
    omega
theorem all_at (E : Enc enc) (l : List α) (i : Nat) (hi : i < l.length) (k : Nat) (hk : k < 4) : (l.flatMap enc)[i * 4 + k]? = (enc l[i])[k]? := by
  rw [← List.getElem?_drop, all_drop E, List.drop_eq_getElem_cons hi, List.flatMap_cons, List.getElem?_append_left (by rw [E.len]; exact hk)]
theorem all_set (E : Enc enc) (l : List α) (i : Nat) (hi : i < l.length) (y : α) : (l.flatMap enc).take (i * 4) ++ enc y ++ (l.flatMap enc).drop (i * 4 + (enc y).length) = (l.set i y).flatMap enc := by
  rw [E.len, show i * 4 + 4 = (i + 1) * 4 by omega, all_drop E, all_take E, List.set_eq_take_append_cons_drop, if_pos hi, List.flatMap_append, List.flatMap_cons, List.append_assoc]
/-- A row of elements with room behind them. -/
structure Rw (enc : α → List Value) (W : World) (g cap : Nat) (l : List α) : Prop where
  row : ∃ cur, W.heap[g]? = some (.cells cur 50 (0, 0)) ∧ cur.size = cap * 4 ∧ cur.toList.take (l.length * 4) = l.flatMap enc
  fits : l.length ≤ cap
  small : cap ≤ maxLen
theorem Rw.cells {W : World} {g cap : Nat} {l : List α} (h : Rw enc W g cap l) {j : Nat} {v : Value} (hv : (l.flatMap enc)[j]? = some v) : W.cell? ⟨g, j, none⟩ = some v := by
  obtain ⟨cur, h1, h2, h3⟩ := h.row
  rw [← h3, List.getElem?_take] at hv
  split at hv
  · rw [Array.getElem?_toList] at hv
    exact cell_box h1 hv
  · cases hv
theorem Rw.any {W : World} {g cap : Nat} {l : List α} (h : Rw enc W g cap l) {j : Nat} (hj : j < cap * 4) : (W.cell? ⟨g, j, none⟩).isSome = true ∧ W.frozen? ⟨g, j, none⟩ = false := by
  obtain ⟨cur, h1, h2, _⟩ := h.row
  refine ⟨?_, by simp [World.frozen?, h1]⟩
  rw [cell_box h1 (Array.getElem?_eq_getElem (by omega : j < cur.size))]
  rfl
theorem Rw.load {W : World} {g cap : Nat} {l : List α} (E : Enc enc) (h : Rw enc W g cap l) (P : Program) (i : Nat) (hi : i < l.length) :
    Sem.run P (loadCellsFrom ⟨g, i * 4, none⟩ 0 4 #[]) W = .ok (enc l[i]).toArray W :=
  run_loadCellsFrom_list P _ _ _ 4 (E.len _) fun j v hv => by
    have hj : j < 4 := by
      have := (List.getElem?_eq_some_iff.1 hv).1
      rwa [E.len] at this
    rw [Addr.add_lit]
    exact h.cells (by rw [all_at E l i hi j hj]; exact hv)
theorem Rw.store {W : World} {g cap : Nat} {l : List α} (E : Enc enc) (h : Rw enc W g cap l) (P : Program) (i : Nat) (hi : i < l.length) (y : α) :
    Sem.run P (storeCells ⟨g, i * 4, none⟩ (enc y) 0) W = .ok () (W.setCells g (i * 4) (enc y)) := by
  have hf := h.fits
  have hst := run_storeCells_cells (P := P) g (i * 4) (enc y) 0 W (fun j hj => by rw [E.len] at hj; exact (h.any (j := i * 4 + 0 + j) (by omega)).1) (fun j hj => by rw [E.len] at hj; exact (h.any (j := i * 4 + 0 + j) (by omega)).2) (E.one y)
  simpa only [Nat.add_zero] using hst
theorem ovr_head {F R vs : List Value} {o n : Nat} (h : o + vs.length ≤ F.length) (hn : F.length = n) : (ovr (F ++ R) o vs).take n = F.take o ++ vs ++ F.drop (o + vs.length) := by
  unfold ovr
  rw [List.take_append_of_le_length (l₁ := F) (l₂ := R) (by omega : o ≤ F.length), List.drop_append_of_le_length h, ← List.append_assoc]
  refine List.take_left' ?_
  simp only [List.length_append, List.length_take, List.length_drop]
  omega
theorem Rw.put {W : World} {g cap : Nat} {l : List α} (E : Enc enc) (h : Rw enc W g cap l) (i : Nat) (hi : i < l.length) (y : α) : Rw enc (W.setCells g (i * 4) (enc y)) g cap (l.set i y) := by
  obtain ⟨cur, h1, h2, h3⟩ := h.row
  have hf := h.fits
  have hc : cur.toList.length = cap * 4 := by rw [Array.length_toList]; exact h2
  have hb : i * 4 + (enc y).length ≤ cur.size := by rw [E.len]; omega
  refine ⟨⟨_, setCells_row (enc y) (i * 4) W cur h1 hb, ?_, ?_⟩, by rw [List.length_set]; exact hf, h.small⟩
  · show (ovr cur.toList (i * 4) (enc y)).length = _
    rw [ovr_len (by rw [Array.length_toList]; exact hb), hc]
  · show (ovr cur.toList (i * 4) (enc y)).take _ = _
    rw [List.length_set, ← all_set E l i hi y]
    have hC : cur.toList = l.flatMap enc ++ cur.toList.drop (l.length * 4) := by rw [← h3, List.take_append_drop]
    rw [hC]
    exact ovr_head (by rw [all_len E]; rw [E.len]; omega) (all_len E l)
theorem Rw.fr {A : Nat → Prop} {W W' : World} {g cap : Nat} {l : List α} (h : Rw enc W g cap l) (hf : Fr A W W') (hA : ¬ A g) : Rw enc W' g cap l := by
  obtain ⟨cur, h1, h2⟩ := h.row
  exact ⟨⟨cur, (hf.same g (Array.getElem?_eq_some_iff.1 h1).1 hA).trans h1, h2⟩, h.fits, h.small⟩
theorem Rw.below {W W' : World} {g cap : Nat} {l : List α} (h : Rw enc W g cap l) (hb : Below W.heap.size W W') : Rw enc W' g cap l := h.fr (Fr.of_below (A := fun _ => False) hb) (fun h => h)
theorem Rw.drew {W : World} {g cap : Nat} {l : List α} (h : Rw enc W g cap l) : Rw enc W.drew g cap l := ⟨h.row, h.fits, h.small⟩
theorem Rw.lt {W : World} {g cap : Nat} {l : List α} (h : Rw enc W g cap l) : g < W.heap.size := by
  obtain ⟨cur, h1, _⟩ := h.row
  exact (Array.getElem?_eq_some_iff.1 h1).1
/-- What the sort has come to: the row, and nothing else has turned. -/
structure So (enc : α → List Value) (w : World) (g cap : Nat) (l : List α) (W : World) : Prop where
  row : Rw enc W g cap l
  fr : Fr (fun q => q = g) w W
theorem So.below {w W W' : World} {g cap : Nat} {l : List α} (h : So enc w g cap l W) (hb : Below W.heap.size W W') : So enc w g cap l W' := ⟨h.row.below hb, h.fr.trans (Fr.of_below hb)⟩
theorem So.put {w W : World} {g cap : Nat} {l : List α} (E : Enc enc) (h : So enc w g cap l W) (i : Nat) (hi : i < l.length) (y : α) : So enc w g cap (l.set i y) (W.setCells g (i * 4) (enc y)) := ⟨h.row.put E i hi y, h.fr.trans (setCells_fr _ _ _)⟩
theorem So.drew {w W : World} {g cap : Nat} {l : List α} (h : So enc w g cap l W) : So enc w g cap l W.drew := ⟨h.row.drew, h.fr.trans ⟨(Below.refl _ W).drew, fun _ _ _ => rfl⟩⟩
theorem So.trans {w W : World} {g cap : Nat} {l m : List α} {W' : World} (h : So enc w g cap l W) (k : So enc W g cap m W') : So enc w g cap m W' := ⟨k.row, h.fr.trans k.fr⟩
/-- Two places exchanged. -/
theorem set_two (A B C : List α) (x y : α) : ((A ++ x :: (B ++ y :: C)).set A.length y).set (A.length + 1 + B.length) x = A ++ y :: (B ++ x :: C) := by
  rw [List.set_append_right _ _ (Nat.le_refl _), Nat.sub_self, List.set_cons_zero, List.set_append_right _ _ (by omega), show A.length + 1 + B.length - A.length = B.length + 1 by omega, List.set_cons_succ, List.set_append_right _ _ (Nat.le_refl _), Nat.sub_self, List.set_cons_zero]
theorem set_two2 (A B C : List α) (x y : α) : ((A ++ x :: (B ++ y :: C)).set (A.length + 1 + B.length) x).set A.length y = A ++ y :: (B ++ x :: C) := by
  rw [List.set_comm _ _ (by omega), set_two]
theorem get_one (A : List α) (x : α) (C : List α) (h : A.length < (A ++ x :: C).length) : (A ++ x :: C)[A.length]'h = x := by simp
theorem get_two (A B C : List α) (x y : α) (h : A.length + 1 + B.length < (A ++ x :: (B ++ y :: C)).length) : (A ++ x :: (B ++ y :: C))[A.length + 1 + B.length]'h = y := by
  rw [List.getElem_append_right (by omega)]
  simp only [show A.length + 1 + B.length - A.length = B.length + 1 by omega, List.getElem_cons_succ]
  exact get_one _ _ _ _
end
theorem encBk : Enc bkCells := ⟨fun _ => rfl, fun x v hv => bk_one x v hv⟩
/-- An element's cells and marks. -/
structure Cel (W : World) (g i : Nat) (x : Bk) : Prop where
  c0 : W.cell? ⟨g, i * 4, none⟩ = some (.string x.1)
  c1 : W.cell? ⟨g, i * 4 + 1, none⟩ = some (.string x.2.x.1)
  c2 : W.cell? ⟨g, i * 4 + 2, none⟩ = some (.int .i64 x.2.x.2)
  c3 : W.cell? ⟨g, i * 4 + 3, none⟩ = some (.slice x.2.a (lenF x.2.l) x.2.c)
  f0 : W.frozen? ⟨g, i * 4, none⟩ = false
  f1 : W.frozen? ⟨g, i * 4 + 1, none⟩ = false
  f2 : W.frozen? ⟨g, i * 4 + 2, none⟩ = false
  f3 : W.frozen? ⟨g, i * 4 + 3, none⟩ = false
theorem Rw.cel {W : World} {g cap : Nat} {l : List Bk} (h : Rw bkCells W g cap l) (i : Nat) (hi : i < l.length) : Cel W g i l[i] := by
  have hf := h.fits
  refine ⟨?_, ?_, ?_, ?_, (h.any (by omega)).2, (h.any (by omega)).2, (h.any (by omega)).2, (h.any (by omega)).2⟩
  · exact h.cells (j := i * 4) (by have := all_at encBk l i hi 0 (by omega); rw [Nat.add_zero] at this; rw [this]; rfl)
  · exact h.cells (by rw [all_at encBk l i hi 1 (by omega)]; rfl)
  · exact h.cells (by rw [all_at encBk l i hi 2 (by omega)]; rfl)
  · exact h.cells (by rw [all_at encBk l i hi 3 (by omega)]; rfl)
/-- All that an exchange of two elements asks. -/
structure Exch (w W : World) (g cap i j : Nat) (l : List Bk) (x y : Bk) : Prop where
  cx : Cel W g i x
  cy : Cel W g j y
  so1 : So bkCells w g cap l ((((((((W.setCell ⟨g, i * 4, none⟩ (.string y.1)).setCell ⟨g, i * 4 + 1, none⟩ (.string y.2.x.1)).setCell ⟨g, i * 4 + 2, none⟩ (.int .i64 y.2.x.2)).setCell ⟨g, i * 4 + 3, none⟩ (.slice y.2.a (lenF y.2.l) y.2.c)).setCell ⟨g, j * 4, none⟩ (.string x.1)).setCell ⟨g, j * 4 + 1, none⟩ (.string x.2.x.1)).setCell ⟨g, j * 4 + 2, none⟩ (.int .i64 x.2.x.2)).setCell ⟨g, j * 4 + 3, none⟩ (.slice x.2.a (lenF x.2.l) x.2.c)).drew
  so2 : So bkCells w g cap l ((((((((W.setCell ⟨g, j * 4, none⟩ (.string x.1)).setCell ⟨g, j * 4 + 1, none⟩ (.string x.2.x.1)).setCell ⟨g, j * 4 + 2, none⟩ (.int .i64 x.2.x.2)).setCell ⟨g, j * 4 + 3, none⟩ (.slice x.2.a (lenF x.2.l) x.2.c)).setCell ⟨g, i * 4, none⟩ (.string y.1)).setCell ⟨g, i * 4 + 1, none⟩ (.string y.2.x.1)).setCell ⟨g, i * 4 + 2, none⟩ (.int .i64 y.2.x.2)).setCell ⟨g, i * 4 + 3, none⟩ (.slice y.2.a (lenF y.2.l) y.2.c)).drew
theorem So.exch {w W : World} {g cap : Nat} {A B C : List Bk} {x y : Bk} (h : So bkCells w g cap (A ++ x :: (B ++ y :: C)) W) (i j : Nat) (hi : A.length = i) (hj : A.length + 1 + B.length = j) :
    Exch w W g cap i j (A ++ y :: (B ++ x :: C)) x y := by
  subst hi hj
  have hl : (A ++ x :: (B ++ y :: C)).length = A.length + 1 + B.length + 1 + C.length := by simp only [List.length_append, List.length_cons]; omega
  have hla : A.length < (A ++ x :: (B ++ y :: C)).length := by omega
  have hlb : A.length + 1 + B.length < (A ++ x :: (B ++ y :: C)).length := by omega
  have X0 := h.row.cel _ hla
  have Y0 := h.row.cel _ hlb
  rw [get_one] at X0
  rw [get_two] at Y0
  have hs1 := h.put encBk _ hla y
  have hs2 := hs1.put encBk (A.length + 1 + B.length) (by rw [List.length_set]; exact hlb) x
  have hr1 := h.put encBk _ hlb x
  have hr2 := hr1.put encBk A.length (by rw [List.length_set]; exact hla) y
  rw [set_two] at hs2
  rw [set_two2] at hr2
  exact ⟨X0, Y0, hs2.drew, hr2.drew⟩
end Go.Proofs.Ytgidgmgpgfonnaa
/- What swapRange and rotate of the library's stable sort do to a row. -/
namespace Go.Proofs.Ytgidgmgpgfonnaa
open Go.RowKit Go.Deep

set_option maxRecDepth 100000 in
set_option maxHeartbeats 8000000 in
/-- Two stretches of one length exchanged. -/
theorem swapRange_any (g cap : Nat) (cmp : Value) (X U M V Y : List Bk) (w : World) (hUV : U.length = V.length) (hR : Rw bkCells w g cap (X ++ U ++ M ++ V ++ Y)) (hn : (X ++ U ++ M ++ V ++ Y).length ≤ 2097152) :
    Calls Try.prog 98 #[.slice (some ⟨g, 0, none⟩) (X ++ U ++ M ++ V ++ Y).length cap, .int .i64 X.length, .int .i64 (X ++ U ++ M).length, .int .i64 U.length, cmp] w fun e w' => e = .returned (.tuple #[]) ∧ So bkCells w g cap (X ++ V ++ M ++ U ++ Y) w' := by
  obtain ⟨n, hN⟩ : ∃ n, (X ++ U ++ M ++ V ++ Y).length = n := ⟨_, rfl⟩
  obtain ⟨b, hB⟩ : ∃ b, (X ++ U ++ M).length = b := ⟨_, rfl⟩
  have hN' : X.length + U.length + M.length + V.length + Y.length = n := by rw [← hN]; simp only [List.length_append]
  have hB' : X.length + U.length + M.length = b := by rw [← hB]; simp only [List.length_append]
  rw [hN] at hn ⊢
  rw [hB]
  have HR := hid hR
  clear hR hN hB
  obtain ⟨a, hA⟩ : ∃ a, X.length = a := ⟨_, rfl⟩
  obtain ⟨m, hM⟩ : ∃ m, U.length = m := ⟨_, rfl⟩
  rw [hA, hM]
  go_enter Try.func98, Try.ntmps98
  go_wp2_with fail
  go_loopw [10] (fun iv wr => ∃ i : Nat, iv = .int .i64 i ∧ i ≤ m ∧ So bkCells w g cap (X ++ V.take i ++ U.drop i ++ M ++ U.take i ++ V.drop i ++ Y) wr) (fun iv _ => m - (intOf iv).toNat)
  case atStart => exact ⟨0, rfl, Nat.zero_le _, ⟨by simpa using HR.out, Fr.refl _ _⟩⟩
  case round =>
    obtain ⟨i, rfl, hi, hso⟩ := hrel
    by_cases hlt : i < m
    · have hu : i < U.length := by omega
      have hv : i < V.length := by omega
      have e0 : X ++ V.take i ++ U.drop i ++ M ++ U.take i ++ V.drop i ++ Y = (X ++ V.take i) ++ U[i] :: ((U.drop (i + 1) ++ M ++ U.take i) ++ V[i] :: (V.drop (i + 1) ++ Y)) := by
        rw [List.drop_eq_getElem_cons hu, List.drop_eq_getElem_cons hv]
        simp only [List.append_assoc, List.cons_append]
      have e1 : X ++ V.take (i + 1) ++ U.drop (i + 1) ++ M ++ U.take (i + 1) ++ V.drop (i + 1) ++ Y = (X ++ V.take i) ++ V[i] :: ((U.drop (i + 1) ++ M ++ U.take i) ++ U[i] :: (V.drop (i + 1) ++ Y)) := by
        rw [List.take_succ_eq_append_getElem hu, List.take_succ_eq_append_getElem hv]
        simp only [List.append_assoc, List.cons_append, List.nil_append]
      have la : (X ++ V.take i).length = a + i := by rw [List.length_append, List.length_take]; omega
      have lb : (X ++ V.take i).length + 1 + (U.drop (i + 1) ++ M ++ U.take i).length = b + i := by simp only [List.length_append, List.length_take, List.length_drop]; omega
      rw [e0] at hso
      have X0 := hso.exch (a + i) (b + i) la lb
      rw [← e1] at X0
      generalize U[i] = x at X0
      generalize V[i] = y at X0
      obtain ⟨c0, c1, c2, c3, f0, f1, f2, f3⟩ := X0.cx
      obtain ⟨d0, d1, d2, d3, k0, k1, k2, k3⟩ := X0.cy
      have HS2 := hid X0.so1
      have hne : a + i ≠ b + i := by omega
      clear hso e0 e1 la lb X0 hu hv
      have mixed : Try.prog.follows .mixedOrders = true := by kernel_rfl
      go_wp2_with fail
      go_big_region_o
      all_goals go_wp2
      all_goals
        go_roundw
        case rel => exact ⟨i + 1, by go_num, by omega, HS2.out⟩
        case measure => simp [intOf]; omega
    · have he : i = m := by omega
      have ht : X ++ V.take i ++ U.drop i ++ M ++ U.take i ++ V.drop i ++ Y = X ++ V ++ M ++ U ++ Y := by
        rw [List.take_of_length_le (by omega), List.drop_eq_nil_of_le (by omega), List.take_of_length_le (by omega), List.drop_eq_nil_of_le (by omega)]
        simp
      rw [ht] at hso
      have HSO := hid hso
      clear hso
      go_wp2_with fail
      go_end0
      exact ⟨rfl, HSO.out⟩
end Go.Proofs.Ytgidgmgpgfonnaa
/- What rotate of the library's stable sort does to a row. -/
namespace Go.Proofs.Ytgidgmgpgfonnaa
open Go.RowKit Go.Deep

theorem swapRange_at (g cap : Nat) (cmp : Value) (l X U M V Y : List Bk) (a b m n : Nat) (w : World) (hl : l = X ++ U ++ M ++ V ++ Y) (ha : X.length = a) (hb : (X ++ U ++ M).length = b) (hm : U.length = m) (hn : l.length = n) (hUV : U.length = V.length) (hR : Rw bkCells w g cap l) (hz : l.length ≤ 2097152) :
    Calls Try.prog 98 #[.slice (some ⟨g, 0, none⟩) n cap, .int .i64 a, .int .i64 b, .int .i64 m, cmp] w fun e w' => e = .returned (.tuple #[]) ∧ So bkCells w g cap (X ++ V ++ M ++ U ++ Y) w' := by
  subst hl ha hb hm hn
  exact swapRange_any g cap cmp X U M V Y w hUV hR hz
set_option maxRecDepth 100000 in
set_option maxHeartbeats 8000000 in
/-- Two stretches side by side turned. -/
theorem rotate_any (g cap : Nat) (cmp : Value) (X0 A B Y0 : List Bk) (w : World) (hA : 0 < A.length) (hB : 0 < B.length) (hR : Rw bkCells w g cap (X0 ++ A ++ B ++ Y0)) (hn : (X0 ++ A ++ B ++ Y0).length ≤ 2097152) :
    Calls Try.prog 93 #[.slice (some ⟨g, 0, none⟩) (X0 ++ A ++ B ++ Y0).length cap, .int .i64 X0.length, .int .i64 (X0 ++ A).length, .int .i64 (X0 ++ A ++ B).length, cmp] w fun e w' => e = .returned (.tuple #[]) ∧ So bkCells w g cap (X0 ++ B ++ A ++ Y0) w' := by
  obtain ⟨n, hN⟩ : ∃ n, (X0 ++ A ++ B ++ Y0).length = n := ⟨_, rfl⟩
  obtain ⟨m, hM⟩ : ∃ m, (X0 ++ A).length = m := ⟨_, rfl⟩
  obtain ⟨b, hb⟩ : ∃ b, (X0 ++ A ++ B).length = b := ⟨_, rfl⟩
  obtain ⟨a, ha⟩ : ∃ a, X0.length = a := ⟨_, rfl⟩
  have hN' : X0.length + A.length + B.length + Y0.length = n := by rw [← hN]; simp only [List.length_append]
  have hM' : X0.length + A.length = m := by rw [← hM]; simp only [List.length_append]
  have hb' : X0.length + A.length + B.length = b := by rw [← hb]; simp only [List.length_append]
  rw [hN] at hn ⊢
  rw [hM, hb, ha]
  have HR := hid hR; have HN := hid hN
  have hma : a < m := by omega
  have hmb : m < b := by omega
  have hbn : b ≤ n := by omega
  have HLA : Hid (A.length = m - a) := hid (by omega)
  have HLB : Hid (B.length = b - m) := hid (by omega)
  have HLX : Hid (X0.length = a) := hid ha
  clear hR hN hM hb ha hN' hM' hb' hA hB
  go_enter Try.func93, Try.ntmps93
  go_wp2_with fail
  go_loopw [10, 11] (fun iv jv wr => ∃ (i j : Nat) (X U V Y : List Bk), iv = .int .i64 i ∧ jv = .int .i64 j ∧ U.length = i ∧ V.length = j ∧ 0 < i ∧ 0 < j ∧ X.length + i = m ∧ X.length + i + j + Y.length = n ∧ X ++ V ++ U ++ Y = X0 ++ B ++ A ++ Y0 ∧ So bkCells w g cap (X ++ U ++ V ++ Y) wr) (fun iv jv _ => (intOf iv).toNat + (intOf jv).toNat)
  case atStart => exact ⟨m - a, b - m, X0, A, B, Y0, by go_num, by go_num, HLA.out, HLB.out, by omega, by omega, by have := HLX.out; omega, by have := HLX.out; have h := HN.out; simp only [List.length_append] at h; have := HLA.out; have := HLB.out; omega, rfl, ⟨HR.out, Fr.refl _ _⟩⟩
  case round =>
    obtain ⟨i, j, X, U, V, Y, rfl, rfl, hU, hV, hi0, hj0, hXm, hXn, htar, hso⟩ := hrel
    have HSO := hid hso; have HTAR := hid htar
    have hmi : m - i = X.length := by omega
    clear hso htar
    by_cases hij : i = j
    · subst hij
      have hc := swapRange_at g cap cmp (X ++ U ++ V ++ Y) X U [] V Y X.length m i n wr (by simp) rfl (by simp only [List.length_append, List.length_nil]; omega) hU (by simp only [List.length_append]; omega) (by omega) HSO.out.row (by simp only [List.length_append]; omega)
      have HC := hid hc
      have hsub : ((m : Int) - (i : Int)) = ((m - i : Nat) : Int) := by omega
      clear hc
      go_wp2_with fail
      refine HC.out.mono ?_
      rintro e w1 ⟨rfl, hs⟩
      have HS := hid (HSO.out.trans hs)
      clear hs
      go_wp2_with fail
      go_end0
      refine ⟨rfl, ?_⟩
      have h := HS.out
      rw [List.append_nil, HTAR.out] at h
      exact h
    · by_cases hgt : j < i
      · have hc := swapRange_at g cap cmp (X ++ U ++ V ++ Y) X (U.take j) (U.drop j) V Y X.length m j n wr (by rw [List.append_assoc X (U.take j), List.take_append_drop]) rfl (by simp only [List.length_append, List.length_take, List.length_drop]; omega) (by rw [List.length_take]; omega) (by simp only [List.length_append]; omega) (by rw [List.length_take]; omega) HSO.out.row (by simp only [List.length_append]; omega)
        have HC := hid hc
        have hsub : ((m : Int) - (i : Int)) = ((m - i : Nat) : Int) := by omega
        have hne : ¬ ((i : Int) = (j : Int)) := by omega
        clear hc
        go_wp2_with fail
        refine HC.out.mono ?_
        rintro e w1 ⟨rfl, hs⟩
        have HS := hid (HSO.out.trans hs)
        clear hs
        go_wp2_with fail
        go_roundw
        case rel =>
          refine ⟨i - j, j, X ++ V, U.drop j, U.take j, Y, by go_num, rfl, by rw [List.length_drop]; omega, by rw [List.length_take]; omega, by omega, by omega, by rw [List.length_append]; omega, by rw [List.length_append]; omega, ?_, HS.out⟩
          rw [← HTAR.out, List.append_assoc (X ++ V) (U.take j), List.take_append_drop]
        case measure => simp [intOf]; omega
      · have hc := swapRange_at g cap cmp (X ++ U ++ V ++ Y) X U (V.take (j - i)) (V.drop (j - i)) Y X.length (m + j - i) i n wr (by rw [List.append_assoc (X ++ U) (V.take (j - i)), List.take_append_drop]) rfl (by simp only [List.length_append, List.length_take]; omega) hU (by simp only [List.length_append]; omega) (by rw [List.length_drop]; omega) HSO.out.row (by simp only [List.length_append]; omega)
        have HC := hid hc
        have hsub : ((m : Int) - (i : Int)) = ((m - i : Nat) : Int) := by omega
        have hsub2 : ((m : Int) + (j : Int) - (i : Int)) = ((m + j - i : Nat) : Int) := by omega
        have hne : ¬ ((i : Int) = (j : Int)) := by omega
        clear hc
        go_wp2_with fail
        refine HC.out.mono ?_
        rintro e w1 ⟨rfl, hs⟩
        have HS := hid (HSO.out.trans hs)
        clear hs
        go_wp2_with fail
        go_roundw
        case rel =>
          refine ⟨i, j - i, X, V.drop (j - i), V.take (j - i), U ++ Y, rfl, by go_num, by rw [List.length_drop]; omega, by rw [List.length_take]; omega, by omega, by omega, by omega, by rw [List.length_append]; omega, ?_, ?_⟩
          · rw [← HTAR.out, List.append_assoc X (V.take (j - i)), List.take_append_drop, List.append_assoc (X ++ V)]
          · have h := HS.out
            rw [List.append_assoc (X ++ V.drop (j - i) ++ V.take (j - i))] at h
            exact h
        case measure => simp [intOf]; omega
end Go.Proofs.Ytgidgmgpgfonnaa
/- What the insertion sort of the library's stable sort does to a row of items. -/
namespace Go.Proofs.Ytgidgmgpgfonnaa
open Go.RowKit Go.Deep

/-- Binds by their names. -/
def cmpK (a b : ByteArray) : Int := Lib.compareBytes a.data.toList b.data.toList
def ltI (x y : Bk) : Bool := decide (cmpK x.1 y.1 < 0)
theorem cmp_lt (x y : Bk) : cmpK x.1 y.1 < 0 ↔ ltI x y = true := by simp [ltI]
theorem swoI : Swo ltI := by
  refine ⟨fun x => ?_, fun x y z h1 h2 => (cmp_lt x z).1 ?_, fun x y z h => ?_⟩
  · cases h : ltI x x with
    | false => rfl
    | true =>
      have h1 := (cmp_lt x x).2 h
      unfold cmpK at h1
      rw [bytes_refl] at h1
      omega
  · have a := (cmp_lt x y).2 h1
    have b := (cmp_lt y z).2 h2
    unfold cmpK at *
    exact (bytes_cons x.1.data.toList y.1.data.toList z.1.data.toList).lt a b
  · have h0 := (cmp_lt x z).2 h
    rw [← cmp_lt, ← cmp_lt]
    unfold cmpK at *
    have h1 := bytes_anti x.1.data.toList y.1.data.toList
    have h2 := bytes_anti y.1.data.toList z.1.data.toList
    have h3 := bytes_anti x.1.data.toList z.1.data.toList
    have c := bytes_cons z.1.data.toList y.1.data.toList x.1.data.toList
    by_cases e1 : Lib.compareBytes x.1.data.toList y.1.data.toList < 0
    · exact .inl e1
    · by_cases e2 : Lib.compareBytes y.1.data.toList z.1.data.toList < 0
      · exact .inr e2
      · exfalso
        by_cases z1 : Lib.compareBytes z.1.data.toList y.1.data.toList = 0
        · have := c.l z1
          omega
        · by_cases z2 : Lib.compareBytes y.1.data.toList x.1.data.toList = 0
          · have := c.r z2
            omega
          · have := c.lt (by omega) (by omega)
            omega
set_option maxRecDepth 100000 in
set_option maxHeartbeats 2000000 in
/-- Compose's closure. -/
theorem gcmp_any (x y : Bk) (w : World) : Calls Try.prog 44 #[.agg #[.string x.1, .string x.2.x.1, .int .i64 x.2.x.2, .slice x.2.a (lenF x.2.l) x.2.c], .agg #[.string y.1, .string y.2.x.1, .int .i64 y.2.x.2, .slice y.2.a (lenF y.2.l) y.2.c]] w fun e w' => e = .returned (.int .i64 (cmpK x.1 y.1)) ∧ Below w.heap.size w w' := by
  obtain ⟨xn, ⟨⟨x1, x2⟩, xl, xa, xc⟩⟩ := x
  obtain ⟨yn, ⟨⟨y1, y2⟩, yl, ya, yc⟩⟩ := y
  have HB := hid fun W => Try.strings_Compare xn yn W
  dsimp only
  unfold cmpK
  obtain ⟨c, hc⟩ : ∃ c, Lib.compareBytes xn.data.toList yn.data.toList = c := ⟨_, rfl⟩
  rw [hc] at HB ⊢
  clear hc
  have b1 := alloc_below0 w (.cells #[.string xn, .string x1, .int .i64 x2, .slice xa (lenF xl) xc] 50)
  have b2 := alloc_below0 (w.alloc (.cells #[.string xn, .string x1, .int .i64 x2, .slice xa (lenF xl) xc] 50)) (.cells #[.string yn, .string y1, .int .i64 y2, .slice ya (lenF yl) yc] 50)
  have L2 := hid (b1.trans (b2.mono b1.size))
  clear b1 b2
  go_enter Try.func44, Try.ntmps44
  go_wp2_with fail
  refine (HB.out _).mono ?_
  rintro e w1 ⟨rfl, rfl⟩
  go_wp2
  go_ret
  exact ⟨rfl, L2.out⟩
/-- The order asks nothing of memory. -/
structure Gb (w : World) (g gb : Nat) : Prop where
  triv : w = w ∧ g = g ∧ gb = gb
theorem Gb.fr {w W : World} {g gb : Nat} (_h : Gb w g gb) (_hf : Fr (fun q => q = g) w W) : Gb W g gb := ⟨rfl, rfl, rfl⟩
abbrev cmpV (_gb : Nat) : Value := .func (.func 44) #[] #[]
set_option maxRecDepth 100000 in
set_option maxHeartbeats 8000000 in
theorem insertion_any (g cap gb : Nat) (X S Y : List Bk) (w : World) (hg : Gb w g gb) (hR : Rw bkCells w g cap (X ++ S ++ Y)) (hn : (X ++ S ++ Y).length ≤ 2097152) :
    Calls Try.prog 81 #[.slice (some ⟨g, 0, none⟩) (X ++ S ++ Y).length cap, .int .i64 X.length, .int .i64 (X ++ S).length, cmpV gb] w fun e w' => e = .returned (.tuple #[]) ∧ ∃ S', Sd ltI S' ∧ Stb ltI S S' ∧ So bkCells w g cap (X ++ S' ++ Y) w' := by
  obtain ⟨n, hN⟩ : ∃ n, (X ++ S ++ Y).length = n := ⟨_, rfl⟩
  obtain ⟨b, hb⟩ : ∃ b, (X ++ S).length = b := ⟨_, rfl⟩
  obtain ⟨a, ha⟩ : ∃ a, X.length = a := ⟨_, rfl⟩
  have hN' : X.length + S.length + Y.length = n := by rw [← hN]; simp only [List.length_append]
  have hb' : X.length + S.length = b := by rw [← hb]; simp only [List.length_append]
  rw [hN] at hn ⊢
  rw [hb, ha]
  have HR := hid hR; have HG := hid hg
  have HX : Hid (X.length = a) := hid ha
  have hab : a ≤ b := by omega
  have hbn : b ≤ n := by omega
  have HS : Hid (S.length = b - a) := hid (by omega)
  have HY : Hid (Y.length = n - b) := hid (by omega)
  clear hR hg hN hb ha hN' hb'
  go_enter Try.func81, Try.ntmps81
  go_wp2_with fail
  go_loopw [8, 9] (fun iv _ wr => ∃ (i : Nat) (P Q : List Bk), iv = .int .i64 i ∧ a + 1 ≤ i ∧ i ≤ b + 1 ∧ (i ≤ b → P.length = i - a) ∧ P.length + Q.length = b - a ∧ (b < i → Q = []) ∧ Sd ltI P ∧ Stb ltI S (P ++ Q) ∧ So bkCells w g cap (X ++ P ++ Q ++ Y) wr) (fun iv _ _ => b + 1 - (intOf iv).toNat)
  case atStart =>
    refine ⟨a + 1, S.take 1, S.drop 1, by go_num, Nat.le_refl _, by omega, fun h => by rw [List.length_take, HS.out]; omega, by rw [List.length_take, List.length_drop, HS.out]; omega, fun h => List.drop_eq_nil_of_le (by rw [HS.out]; omega), ?_, by rw [List.take_append_drop]; exact Stb.refl _, ⟨by rw [List.append_assoc X, List.take_append_drop]; exact HR.out, Fr.refl _ _⟩⟩
    match S with
    | [] => exact List.Pairwise.nil
    | x :: r => exact List.pairwise_singleton _ _
  case round =>
    obtain ⟨i, P, Q, rfl, hai, hib, hPl, hPQ, hQn, hsP, hstb, hso⟩ := hrel
    by_cases hlt : i < b
    · obtain ⟨x, R, hQ⟩ : ∃ x R, Q = x :: R := by
        match Q, hPQ with
        | [], h => simp at h; have := hPl (by omega); omega
        | x :: R, _ => exact ⟨x, R, rfl⟩
      subst hQ
      have hP := hPl (by omega)
      rw [List.length_cons] at hPQ
      have HSO := hid hso; have HSP := hid hsP; have HST := hid hstb
      clear hso hsP hstb hPl hQn
      go_wp2_with fail
      go_loopw [9] (fun jv wr2 => ∃ (j : Nat) (P1 P2 : List Bk), jv = .int .i64 j ∧ P1 ++ P2 = P ∧ a + P1.length = j ∧ (∀ z ∈ P2, ltI x z = true) ∧ So bkCells w g cap (X ++ P1 ++ x :: (P2 ++ R ++ Y)) wr2) (fun jv _ => (intOf jv).toNat)
      case atStart => exact ⟨i, P, [], rfl, by simp, by omega, fun z hz => absurd hz (by simp), by have h := HSO.out; simp only [List.append_assoc, List.cons_append, List.nil_append] at h ⊢; exact h⟩
      case round =>
        obtain ⟨j, P1, P2, rfl, hPP, hj, hlt2, hso⟩ := hrel
        have HSJ := hid hso; have HL2 := hid hlt2; have HPP := hid hPP
        have hlen : P1.length + P2.length = P.length := by rw [← hPP, List.length_append]
        have hout : (∀ z ∈ P1, Le ltI z x) → ∃ (P' : List Bk), P'.length = i + 1 - a ∧ Sd ltI P' ∧ Stb ltI S (P' ++ R) ∧ P' = P1 ++ x :: P2 := fun hz => by
          have h := put_in swoI P1 P2 x (by rw [hPP]; exact HSP.out) hz hlt2
          refine ⟨P1 ++ x :: P2, by simp only [List.length_append, List.length_cons]; omega, h.1, ?_, rfl⟩
          have h2 := HST.out
          rw [← hPP, show P1 ++ P2 ++ x :: R = (P1 ++ P2 ++ [x]) ++ R by simp] at h2
          exact h2.trans (h.2.app (Stb.refl R))
        have HOUT := hid hout
        clear hso hlt2 hPP hout
        by_cases hja : a < j
        · obtain ⟨P0, z, hP1⟩ : ∃ P0 z, P1 = P0 ++ [z] := by
            have hne : P1 ≠ [] := fun h => by rw [h] at hj; simp at hj; omega
            exact ⟨P1.dropLast, P1.getLast hne, (List.dropLast_concat_getLast hne).symm⟩
          subst hP1
          have hl0 : (P0 ++ [z]).length = P0.length + 1 := by simp
          obtain ⟨jp, rfl⟩ : ∃ jp, j = jp + 1 := ⟨j - 1, by omega⟩
          have hso0 : So bkCells w g cap ((X ++ P0) ++ z :: ([] ++ x :: (P2 ++ R ++ Y))) wr := by
            have h := HSJ.out
            simp only [List.append_assoc, List.cons_append, List.nil_append] at h ⊢
            exact h
          have X0 := hso0.exch jp (jp + 1) (by rw [List.length_append, HX.out]; omega) (by rw [List.length_append, HX.out, List.length_nil]; omega)
          obtain ⟨c0, c1, c2, c3, f0, f1, f2, f3⟩ := X0.cx
          obtain ⟨d0, d1, d2, d3, k0, k1, k2, k3⟩ := X0.cy
          have HX0 := hid fun (W : World) (hW : Below wr.heap.size wr W) => (hso0.below hW).exch jp (jp + 1) (by rw [List.length_append, HX.out]; omega) (by rw [List.length_append, HX.out, List.length_nil]; omega)
          obtain ⟨cv, hcv⟩ : ∃ cv, cmpK x.1 z.1 = cv := ⟨_, rfl⟩
          have HN : Hid (∀ W, Below wr.heap.size wr W → Calls Try.prog 44 #[.agg #[.string x.1, .string x.2.x.1, .int .i64 x.2.x.2, .slice x.2.a (lenF x.2.l) x.2.c], .agg #[.string z.1, .string z.2.x.1, .int .i64 z.2.x.2, .slice z.2.a (lenF z.2.l) z.2.c]] W fun e w' => e = .returned (.int .i64 cv) ∧ Below W.heap.size W w') := hid fun W _ => by
            rw [← hcv]
            exact gcmp_any x z W
          have hcl := cmp_lt x z
          rw [hcv] at hcl
          have HCL := hid hcl
          have hjn : jp + 1 < n := by omega
          clear X0 hso0 hcv hcl hlen
          have jz : (a : Int) < (jp : Int) + 1 := by omega
          have hjz : (jp : Int) + 1 < (n : Int) := by omega
          have hjz2 : (jp : Int) < (n : Int) := by omega
          go_wp2_with fail
          have hne := later_some wr
          have l0 := later_cell c0; have l1 := later_cell c1; have l2 := later_cell c2; have l3 := later_cell c3
          have m0 := later_cell d0; have m1 := later_cell d1; have m2 := later_cell d2; have m3 := later_cell d3
          clear c0 c1 c2 c3 d0 d1 d2 d3 f0 f1 f2 f3 k0 k1 k2 k3
          refine wp_region_later (by kernel_rfl) (by kernel_rfl) ?_
          repeat (go_big_quiet_step (first | (go_at_call 44; with_reducible refine calls_later (HN.out _ ?_); exact Later.below _) | fail))
          refine wpQuiet_nil ?_
          intro _ hw'
          obtain ⟨b4, hw''⟩ := hw'
          subst hw''
          have X0 := HX0.out b4.now b4.below
          have HSB := hid (HSJ.out.below b4.below)
          clear l0 l1 l2 l3 m0 m1 m2 m3 hne HN HX0
          by_cases hcv : cv < 0
          · obtain ⟨c0, c1, c2, c3, f0, f1, f2, f3⟩ := X0.cx
            obtain ⟨d0, d1, d2, d3, k0, k1, k2, k3⟩ := X0.cy
            have HS2 := hid X0.so2
            have hne : jp + 1 ≠ jp := by omega
            have mixed : Try.prog.follows .mixedOrders = true := by kernel_rfl
            have hzlt := HCL.out.1 hcv
            clear X0
            go_wp2_with fail
            go_big_region_o
            all_goals go_wp2
            all_goals
              go_roundw
              case rel =>
                refine ⟨jp, P0, z :: P2, by go_num, by rw [← HPP.out]; simp, by omega, fun q hq => ?_, ?_⟩
                · rcases List.mem_cons.1 hq with rfl | hq
                  · exact hzlt
                  · exact HL2.out q hq
                · have h := HS2.out
                  simp only [List.append_assoc, List.cons_append, List.nil_append] at h ⊢
                  exact h
              case measure => simp [intOf]
          · have hzle : Le ltI z x := by
              unfold Le
              cases h : ltI x z with
              | false => rfl
              | true => exact absurd (HCL.out.2 h) hcv
            have hall : ∀ q ∈ P0 ++ [z], Le ltI q x := fun q hq => by
              rcases List.mem_append.1 hq with hq | hq
              · have h := HSP.out
                rw [← HPP.out] at h
                have h2 := (sd_parts (sd_parts h).1).2.2 q hq z (by simp)
                exact swoI.le_trans h2 hzle
              · rw [List.mem_singleton.1 hq]
                exact hzle
            obtain ⟨P', g1, g2, g3, g4⟩ := HOUT.out hall
            have G1 := hid g1; have G2 := hid g2; have G3 := hid g3; have G4 := hid g4
            clear X0 hall hzle g1 g2 g3 g4
            go_wp2_with fail
            go_roundw
            case rel =>
              refine ⟨i + 1, P', R, by go_num, by omega, by omega, fun _ => G1.out, by have := G1.out; omega, fun h => absurd h (by omega), G2.out, G3.out, ?_⟩
              have h := HSB.out
              rw [G4.out]
              simp only [List.append_assoc, List.cons_append, List.nil_append] at h ⊢
              exact h
            case measure => simp [intOf]; omega
        · have hj0 : P1 = [] := List.eq_nil_of_length_eq_zero (by omega)
          obtain ⟨P', g1, g2, g3, g4⟩ := HOUT.out (fun q hq => by rw [hj0] at hq; cases hq)
          have G1 := hid g1; have G2 := hid g2; have G3 := hid g3; have G4 := hid g4
          have hjz : ¬ (a : Int) < (j : Int) := by omega
          have hjz' : decide ((j : Int) > (a : Int)) = false := decide_eq_false (by omega)
          have mixed : Try.prog.follows .mixedOrders = true := by kernel_rfl
          clear g1 g2 g3 g4 hlen hj0
          go_wp2_with fail
          go_big_region_o
          all_goals go_wp2
          all_goals
            go_roundw
            case rel =>
              refine ⟨i + 1, P', R, by go_num, by omega, by omega, fun _ => G1.out, by have := G1.out; omega, fun h => absurd h (by omega), G2.out, G3.out, ?_⟩
              have h := HSJ.out.drew
              rw [G4.out]
              simp only [List.append_assoc, List.cons_append] at h ⊢
              exact h
            case measure => simp [intOf]; omega
    · have hQ : Q = [] := by
        by_cases hbi : b < i
        · exact hQn hbi
        · have := hPl (by omega)
          exact List.eq_nil_of_length_eq_zero (by omega)
      subst hQ
      have HSO := hid hso; have HSP := hid hsP; have HST := hid hstb
      clear hso hsP hstb hPl hQn
      go_wp2_with fail
      go_end0
      refine ⟨rfl, P, HSP.out, ?_, ?_⟩
      · have h := HST.out
        rwa [List.append_nil] at h
      · have h := HSO.out
        rwa [List.append_nil] at h
end Go.Proofs.Ytgidgmgpgfonnaa
/- What symMerge of the library's stable sort does to a row of items, where one of the two stretches is a single item. -/
namespace Go.Proofs.Ytgidgmgpgfonnaa
open Go.RowKit Go.Deep

theorem sd_low {B : List Bk} (hs : Sd ltI B) (x : Bk) (p : Nat) (h : ∀ (hl : p - 1 < B.length), 0 < p → ltI B[p - 1] x = true) (hp : p ≤ B.length) : ∀ y ∈ B.take p, ltI y x = true := fun y hy => by
  obtain ⟨k, hk, rfl⟩ := List.getElem_of_mem hy
  rw [List.length_take] at hk
  rw [List.getElem_take]
  exact swoI.le_lt (sd_at hs (by omega) (by omega) (by omega) swoI) (h (by omega) (by omega))
theorem sd_high {B : List Bk} (hs : Sd ltI B) (x : Bk) (p : Nat) (h : ∀ (hl : p < B.length), Le ltI x B[p]) : ∀ y ∈ B.drop p, Le ltI x y := fun y hy => by
  obtain ⟨k, hk, rfl⟩ := List.getElem_of_mem hy
  rw [List.length_drop] at hk
  rw [List.getElem_drop]
  exact swoI.le_trans (h (by omega)) (sd_at hs (by omega) (by omega) (by omega) swoI)
theorem sd_low2 {B : List Bk} (hs : Sd ltI B) (x : Bk) (p : Nat) (h : ∀ (hl : p - 1 < B.length), 0 < p → Le ltI B[p - 1] x) (hp : p ≤ B.length) : ∀ y ∈ B.take p, Le ltI y x := fun y hy => by
  obtain ⟨k, hk, rfl⟩ := List.getElem_of_mem hy
  rw [List.length_take] at hk
  rw [List.getElem_take]
  exact swoI.le_trans (sd_at hs (by omega) (by omega) (by omega) swoI) (h (by omega) (by omega))
theorem sd_high2 {B : List Bk} (hs : Sd ltI B) (x : Bk) (p : Nat) (h : ∀ (hl : p < B.length), ltI x B[p] = true) : ∀ y ∈ B.drop p, ltI x y = true := fun y hy => by
  obtain ⟨k, hk, rfl⟩ := List.getElem_of_mem hy
  rw [List.length_drop] at hk
  rw [List.getElem_drop]
  exact swoI.lt_le (h (by omega)) (sd_at hs (by omega) (by omega) (by omega) swoI)
theorem le_of_not {x y : Bk} {cv : Int} (h : cv < 0 ↔ ltI x y = true) (hc : ¬ cv < 0) : Le ltI y x := by
  unfold Le
  cases hl : ltI x y with
  | false => rfl
  | true => exact absurd (h.2 hl) hc
theorem So.cel {w W : World} {g cap : Nat} {l : List Bk} (h : So bkCells w g cap l W) {i : Nat} {x : Bk} (hx : l[i]? = some x) : Cel W g i x := by
  obtain ⟨hi, he⟩ := List.getElem?_eq_some_iff.1 hx
  have := h.row.cel i hi
  rwa [he] at this
/-- What symMerge leaves. -/
def MrgEnd (w : World) (g cap : Nat) (X A B Y : List Bk) (e : Ending) (w' : World) : Prop := e = .returned (.tuple #[]) ∧ ∃ C, Sd ltI C ∧ Stb ltI (A ++ B) C ∧ So bkCells w g cap (X ++ C ++ Y) w'
set_option maxRecDepth 100000 in
set_option maxHeartbeats 8000000 in
theorem mrg_left (g cap gb : Nat) (X : List Bk) (x : Bk) (B Y : List Bk) (w : World) (hg : Gb w g gb) (hR : Rw bkCells w g cap (X ++ [x] ++ B ++ Y)) (hn : (X ++ [x] ++ B ++ Y).length ≤ 2097152) (hs : Sd ltI B) (a m b n : Nat) (ha : X.length = a) (hm : a + 1 = m) (hb : m + B.length = b) (hl : (X ++ [x] ++ B ++ Y).length = n) :
    Calls Try.prog 82 #[.slice (some ⟨g, 0, none⟩) n cap, .int .i64 a, .int .i64 m, .int .i64 b, cmpV gb] w (MrgEnd w g cap X [x] B Y) := by
  rw [hl] at hn
  have hN' : a + 1 + B.length + Y.length = n := by rw [← hl]; simp only [List.length_append, List.length_cons, List.length_nil]; omega
  have HG := hid hg; have HR := hid hR; have HS := hid hs; have HX := hid ha; have HB := hid hb
  have hbn : b ≤ n := by omega
  have hmb : m ≤ b := by omega
  have hma : (m : Int) - (a : Int) = 1 := by omega
  have HM := hid hm
  have ham : a < m := by omega
  clear hg hR hs hl ha hN' hb hm
  go_enter Try.func82, Try.ntmps82
  go_wp2_with fail
  go_loopw [10, 11, 12] (fun iv jv _ wr => ∃ (i j : Nat), iv = .int .i64 i ∧ jv = .int .i64 j ∧ m ≤ i ∧ i ≤ j ∧ j ≤ b ∧ (∀ (hl : i - m - 1 < B.length), 0 < i - m → ltI B[i - m - 1] x = true) ∧ (∀ (hl : j - m < B.length), Le ltI x B[j - m]) ∧ So bkCells w g cap (X ++ [x] ++ B ++ Y) wr) (fun iv jv _ _ => (intOf jv).toNat - (intOf iv).toNat)
  case atStart => exact ⟨m, b, rfl, rfl, Nat.le_refl _, hmb, Nat.le_refl _, fun _ hp => absurd hp (by omega), fun hl => absurd hl (by have := HB.out; omega), HR.out, Fr.refl _ _⟩
  case round =>
    obtain ⟨i, j, rfl, rfl, hmi, hij, hjb, hlo, hhi, hso⟩ := hrel
    have HLO := hid hlo; have HHI := hid hhi; have HSO := hid hso
    clear hlo hhi hso
    by_cases hlt : i < j
    · go_wp2_with fail
      have hh : ((i : Int) + (j : Int)) / 2 = (((i + j) / 2 : Nat) : Int) := by omega
      have h1 : i ≤ (i + j) / 2 := by omega
      have h2 : (i + j) / 2 < j := by omega
      rw [hh]
      clear hh
      generalize (i + j) / 2 = h at h1 h2 ⊢
      have hBl : h - m < B.length := by have := HB.out; omega
      obtain ⟨y, hy⟩ : ∃ y, B[h - m] = y := ⟨_, rfl⟩
      have gy : (X ++ [x] ++ B ++ Y)[h]? = some y := by
        have hm := HM.out
        rw [List.getElem?_append_left (by simp only [List.length_append, List.length_cons, List.length_nil, HX.out]; omega), List.getElem?_append_right (by simp only [List.length_append, List.length_cons, List.length_nil, HX.out]; omega), ← hy]
        simp only [List.length_append, List.length_cons, List.length_nil, HX.out]
        rw [show h - (a + (0 + 1)) = h - m by omega]
        exact List.getElem?_eq_getElem hBl
      have gx : (X ++ [x] ++ B ++ Y)[a]? = some x := by
        rw [← HX.out]
        simp
      obtain ⟨c0, c1, c2, c3, _, _, _, _⟩ := HSO.out.cel gy
      obtain ⟨d0, d1, d2, d3, _, _, _, _⟩ := HSO.out.cel gx
      obtain ⟨cv, hcv⟩ : ∃ cv, cmpK y.1 x.1 = cv := ⟨_, rfl⟩
      have HN : Hid (∀ W, Below wr.heap.size wr W → Calls Try.prog 44 #[.agg #[.string y.1, .string y.2.x.1, .int .i64 y.2.x.2, .slice y.2.a (lenF y.2.l) y.2.c], .agg #[.string x.1, .string x.2.x.1, .int .i64 x.2.x.2, .slice x.2.a (lenF x.2.l) x.2.c]] W fun e w' => e = .returned (.int .i64 cv) ∧ Below W.heap.size W w') := hid fun W _ => by
        rw [← hcv]
        exact gcmp_any y x W
      have hcl := cmp_lt y x
      rw [hcv, ← hy] at hcl
      have HCL := hid hcl
      clear gy gx hy hcv hcl
      have hz1 : (h : Int) < (n : Int) := by omega
      have hz2 : (a : Int) < (n : Int) := by omega
      go_wp2_with fail
      have hne := later_some wr
      have l0 := later_cell c0; have l1 := later_cell c1; have l2 := later_cell c2; have l3 := later_cell c3
      have m0 := later_cell d0; have m1 := later_cell d1; have m2 := later_cell d2; have m3 := later_cell d3
      clear c0 c1 c2 c3 d0 d1 d2 d3
      refine wp_region_later (by kernel_rfl) (by kernel_rfl) ?_
      repeat (go_big_quiet_step (first | (go_at_call 44; with_reducible refine calls_later (HN.out _ ?_); exact Later.below _) | fail))
      refine wpQuiet_nil ?_
      intro _ hw'
      obtain ⟨b4, hw''⟩ := hw'
      subst hw''
      have HSB := hid (HSO.out.below b4.below)
      clear l0 l1 l2 l3 m0 m1 m2 m3 hne HN
      by_cases hcv : cv < 0
      · have hup : ∀ (hl : h + 1 - m - 1 < B.length), 0 < h + 1 - m → ltI B[h + 1 - m - 1] x = true := fun hl _ => by
          have h5 := HCL.out.1 hcv
          simp only [show h + 1 - m - 1 = h - m by omega]
          exact h5
        have HUP := hid hup
        clear hup
        go_wp2_with fail
        go_roundw
        case rel => exact ⟨h + 1, j, by go_num, rfl, by omega, by omega, by omega, HUP.out, HHI.out, HSB.out⟩
        case measure => simp [intOf]; omega
      · go_wp2_with fail
        go_roundw
        case rel => exact ⟨i, h, rfl, rfl, by omega, by omega, by omega, HLO.out, fun _ => le_of_not HCL.out hcv, HSB.out⟩
        case measure => simp [intOf]; omega
    · have hpe : i = j := by omega
      subst hpe
      obtain ⟨p, hp⟩ : ∃ p, i - m = p := ⟨_, rfl⟩
      have hpB : p ≤ B.length := by have := HB.out; omega
      rw [hp] at HLO HHI
      have hput := put_ahead swoI (B.take p) (B.drop p) x (by rw [List.take_append_drop]; exact HS.out) (sd_low HS.out x p HLO.out hpB) (sd_high HS.out x p HHI.out)
      rw [List.take_append_drop] at hput
      have HPUT := hid hput
      have hia : i = a + 1 + p := by have := HM.out; omega
      have HIA := hid hia; have HP := hid hp
      clear hput hia hp
      go_wp2_with fail
      go_loopw [13] (fun kv wr2 => ∃ k : Nat, kv = .int .i64 k ∧ a ≤ k ∧ k + 1 ≤ i ∧ So bkCells w g cap (X ++ B.take (k - a) ++ x :: ((B.take p).drop (k - a) ++ B.drop p ++ Y)) wr2) (fun kv _ => i - (intOf kv).toNat)
      case atStart => exact ⟨a, rfl, Nat.le_refl _, by omega, by have h := HSO.out; simp only [Nat.sub_self, List.take_zero, List.drop_zero, List.append_nil, List.take_append_drop, List.append_assoc, List.cons_append, List.nil_append] at h ⊢; exact h⟩
      case round =>
        obtain ⟨k, rfl, hak, hki, hso⟩ := hrel
        have hia := HIA.out
        obtain ⟨t, ht⟩ : ∃ t, k - a = t := ⟨_, rfl⟩
        rw [ht] at hso
        by_cases htl : k + 1 < i
        · have htB : t < B.length := by omega
          have e1 : (B.take p).drop t = B[t] :: (B.take p).drop (t + 1) := by
            rw [List.drop_eq_getElem_cons (by rw [List.length_take]; omega), List.getElem_take]
          have hso0 : So bkCells w g cap ((X ++ B.take t) ++ x :: ([] ++ B[t] :: ((B.take p).drop (t + 1) ++ B.drop p ++ Y))) wr := by
            rw [e1] at hso
            exact hso
          have X0 := hso0.exch k (k + 1) (by rw [List.length_append, List.length_take, HX.out]; omega) (by rw [List.length_append, List.length_take, HX.out, List.length_nil]; omega)
          have e2 : (X ++ B.take t) ++ B[t] :: ([] ++ x :: ((B.take p).drop (t + 1) ++ B.drop p ++ Y)) = X ++ B.take (k + 1 - a) ++ x :: ((B.take p).drop (k + 1 - a) ++ B.drop p ++ Y) := by
            rw [show k + 1 - a = t + 1 by omega, List.take_succ_eq_append_getElem htB]
            simp only [List.append_assoc, List.cons_append, List.nil_append]
          rw [e2] at X0
          generalize B[t] = y at X0
          obtain ⟨c0, c1, c2, c3, f0, f1, f2, f3⟩ := X0.cx
          obtain ⟨d0, d1, d2, d3, k0, k1, k2, k3⟩ := X0.cy
          have HS2 := hid X0.so1
          have hz1 : (k : Int) < (i : Int) - 1 := by omega
          have hz2 : (k : Int) + 1 < (n : Int) := by omega
          have hz3 : (k : Int) < (n : Int) := by omega
          have hne : k ≠ k + 1 := by omega
          have mixed : Try.prog.follows .mixedOrders = true := by kernel_rfl
          clear X0 hso0 hso e1 e2 ht hia
          go_wp2_with fail
          go_big_region_o
          all_goals go_wp2
          all_goals
            go_roundw
            case rel => exact ⟨k + 1, by go_num, by omega, by omega, HS2.out⟩
            case measure => simp [intOf]; omega
        · have hte : t = p := by omega
          subst hte
          have HSF := hid hso
          have hz1 : ¬ (k : Int) < (i : Int) - 1 := by omega
          clear hso ht hia
          go_wp2_with fail
          go_end0
          refine ⟨rfl, B.take t ++ x :: B.drop t, HPUT.out.1, HPUT.out.2, ?_⟩
          have h := HSF.out
          rw [List.drop_eq_nil_of_le (by rw [List.length_take]; omega)] at h
          simp only [List.append_assoc, List.cons_append, List.nil_append] at h ⊢
          exact h
end Go.Proofs.Ytgidgmgpgfonnaa
/- What symMerge does to a row of items, where the second stretch is a single item. -/
namespace Go.Proofs.Ytgidgmgpgfonnaa
open Go.RowKit Go.Deep

set_option maxRecDepth 100000 in
set_option maxHeartbeats 8000000 in
theorem mrg_right (g cap gb : Nat) (X A : List Bk) (y : Bk) (Y : List Bk) (w : World) (hg : Gb w g gb) (hR : Rw bkCells w g cap (X ++ A ++ [y] ++ Y)) (hn : (X ++ A ++ [y] ++ Y).length ≤ 2097152) (hs : Sd ltI A) (hA2 : 2 ≤ A.length) (a m b n : Nat) (ha : X.length = a) (hm : a + A.length = m) (hb : m + 1 = b) (hl : (X ++ A ++ [y] ++ Y).length = n) :
    Calls Try.prog 82 #[.slice (some ⟨g, 0, none⟩) n cap, .int .i64 a, .int .i64 m, .int .i64 b, cmpV gb] w (MrgEnd w g cap X A [y] Y) := by
  rw [hl] at hn
  have hN' : a + A.length + 1 + Y.length = n := by rw [← hl]; simp only [List.length_append, List.length_cons, List.length_nil]; omega
  have HG := hid hg; have HR := hid hR; have HS := hid hs; have HX := hid ha; have HA : Hid (A.length = m - a) := hid (by omega)
  have hbn : m < n := by omega
  have ham : a + 2 ≤ m := by omega
  have hma : ¬ (m : Int) - (a : Int) = 1 := by omega
  have hmb : (b : Int) - (m : Int) = 1 := by omega
  clear hg hR hs hl ha hN' hb hm hA2
  go_enter Try.func82, Try.ntmps82
  go_wp2_with fail
  go_loopw [14, 15, 16] (fun iv jv _ wr => ∃ (i j : Nat), iv = .int .i64 i ∧ jv = .int .i64 j ∧ a ≤ i ∧ i ≤ j ∧ j ≤ m ∧ (∀ (hl : i - a - 1 < A.length), 0 < i - a → Le ltI A[i - a - 1] y) ∧ (∀ (hl : j - a < A.length), ltI y A[j - a] = true) ∧ So bkCells w g cap (X ++ A ++ [y] ++ Y) wr) (fun iv jv _ _ => (intOf jv).toNat - (intOf iv).toNat)
  case atStart => exact ⟨a, m, rfl, rfl, Nat.le_refl _, by omega, Nat.le_refl _, fun _ hp => absurd hp (by omega), fun hl => absurd hl (by have := HA.out; omega), HR.out, Fr.refl _ _⟩
  case round =>
    obtain ⟨i, j, rfl, rfl, hmi, hij, hjb, hlo, hhi, hso⟩ := hrel
    have HLO := hid hlo; have HHI := hid hhi; have HSO := hid hso
    clear hlo hhi hso
    by_cases hlt : i < j
    · go_wp2_with fail
      have hh : ((i : Int) + (j : Int)) / 2 = (((i + j) / 2 : Nat) : Int) := by omega
      have h1 : i ≤ (i + j) / 2 := by omega
      have h2 : (i + j) / 2 < j := by omega
      rw [hh]
      clear hh
      generalize (i + j) / 2 = h at h1 h2 ⊢
      have hBl : h - a < A.length := by have := HA.out; omega
      obtain ⟨x, hx⟩ : ∃ x, A[h - a] = x := ⟨_, rfl⟩
      have gx : (X ++ A ++ [y] ++ Y)[h]? = some x := by
        rw [List.append_assoc (X ++ A), List.getElem?_append_left (by simp only [List.length_append, HX.out]; omega), List.getElem?_append_right (by rw [HX.out]; omega), ← hx, HX.out]
        exact List.getElem?_eq_getElem hBl
      have gy : (X ++ A ++ [y] ++ Y)[m]? = some y := by
        have hml : (X ++ A).length = m := by rw [List.length_append, HX.out, HA.out]; omega
        rw [List.append_assoc (X ++ A), List.getElem?_append_right (by omega), hml, Nat.sub_self]
        rfl
      obtain ⟨c0, c1, c2, c3, _, _, _, _⟩ := HSO.out.cel gy
      obtain ⟨d0, d1, d2, d3, _, _, _, _⟩ := HSO.out.cel gx
      obtain ⟨cv, hcv⟩ : ∃ cv, cmpK y.1 x.1 = cv := ⟨_, rfl⟩
      have HN : Hid (∀ W, Below wr.heap.size wr W → Calls Try.prog 44 #[.agg #[.string y.1, .string y.2.x.1, .int .i64 y.2.x.2, .slice y.2.a (lenF y.2.l) y.2.c], .agg #[.string x.1, .string x.2.x.1, .int .i64 x.2.x.2, .slice x.2.a (lenF x.2.l) x.2.c]] W fun e w' => e = .returned (.int .i64 cv) ∧ Below W.heap.size W w') := hid fun W _ => by
        rw [← hcv]
        exact gcmp_any y x W
      have hcl := cmp_lt y x
      rw [hcv, ← hx] at hcl
      have HCL := hid hcl
      clear gy gx hx hcv hcl
      have hz1 : (h : Int) < (n : Int) := by omega
      have hz2 : (m : Int) < (n : Int) := by omega
      go_wp2_with fail
      have hne := later_some wr
      have l0 := later_cell c0; have l1 := later_cell c1; have l2 := later_cell c2; have l3 := later_cell c3
      have m0 := later_cell d0; have m1 := later_cell d1; have m2 := later_cell d2; have m3 := later_cell d3
      clear c0 c1 c2 c3 d0 d1 d2 d3
      refine wp_region_later (by kernel_rfl) (by kernel_rfl) ?_
      repeat (go_big_quiet_step (first | (go_at_call 44; with_reducible refine calls_later (HN.out _ ?_); exact Later.below _) | fail))
      refine wpQuiet_nil ?_
      intro _ hw'
      obtain ⟨b4, hw''⟩ := hw'
      subst hw''
      have HSB := hid (HSO.out.below b4.below)
      clear l0 l1 l2 l3 m0 m1 m2 m3 hne HN
      by_cases hcv : cv < 0
      · have hd : (!decide (cv < 0)) = false := by rw [decide_eq_true hcv]; rfl
        go_wp2_with fail
        all_goals try exact absurd ((show (!decide (cv < 0)) = true by assumption).symm.trans hd) (by decide)
        go_roundw
        case rel => exact ⟨i, h, rfl, rfl, by omega, by omega, by omega, HLO.out, fun _ => HCL.out.1 hcv, HSB.out⟩
        case measure => simp [intOf]; omega
      · have hup : ∀ (hl : h + 1 - a - 1 < A.length), 0 < h + 1 - a → Le ltI A[h + 1 - a - 1] y := fun hl _ => by
          have h5 := le_of_not HCL.out hcv
          simp only [show h + 1 - a - 1 = h - a by omega]
          exact h5
        have HUP := hid hup
        have hd : (!decide (cv < 0)) = true := by rw [decide_eq_false hcv]; rfl
        clear hup
        go_wp2_with fail
        all_goals try exact absurd (hd.symm.trans (show (!decide (cv < 0)) = false by assumption)) (by decide)
        go_roundw
        case rel => exact ⟨h + 1, j, by go_num, rfl, by omega, by omega, by omega, HUP.out, HHI.out, HSB.out⟩
        case measure => simp [intOf]; omega
    · have hpe : i = j := by omega
      subst hpe
      obtain ⟨p, hp⟩ : ∃ p, i - a = p := ⟨_, rfl⟩
      have hpB : p ≤ A.length := by have := HA.out; omega
      rw [hp] at HLO HHI
      have hput := put_in swoI (A.take p) (A.drop p) y (by rw [List.take_append_drop]; exact HS.out) (sd_low2 HS.out y p HLO.out hpB) (sd_high2 HS.out y p HHI.out)
      rw [List.take_append_drop] at hput
      have HPUT := hid hput; have HP := hid hp
      clear hput hp
      go_wp2_with fail
      go_loopw [17] (fun kv wr2 => ∃ k : Nat, kv = .int .i64 k ∧ i ≤ k ∧ k ≤ m ∧ So bkCells w g cap (X ++ A.take (k - a) ++ y :: (A.drop (k - a) ++ Y)) wr2) (fun kv _ => (intOf kv).toNat)
      case atStart => exact ⟨m, rfl, by omega, Nat.le_refl _, by
        have h := HSO.out
        rw [List.take_of_length_le (by rw [HA.out]; exact Nat.le_refl _), List.drop_eq_nil_of_le (by rw [HA.out]; exact Nat.le_refl _)]
        simp only [List.append_assoc, List.cons_append, List.nil_append] at h ⊢
        exact h⟩
      case round =>
        obtain ⟨k, rfl, hak, hki, hso⟩ := hrel
        by_cases htl : i < k
        · obtain ⟨kp, rfl⟩ : ∃ kp, k = kp + 1 := ⟨k - 1, by omega⟩
          obtain ⟨t, ht⟩ : ∃ t, kp - a = t := ⟨_, rfl⟩
          rw [show kp + 1 - a = t + 1 by omega] at hso
          have htB : t < A.length := by have := HA.out; omega
          have hso0 : So bkCells w g cap ((X ++ A.take t) ++ A[t] :: ([] ++ y :: (A.drop (t + 1) ++ Y))) wr := by
            rw [List.take_succ_eq_append_getElem htB] at hso
            simp only [List.append_assoc, List.cons_append, List.nil_append] at hso ⊢
            exact hso
          have X0 := hso0.exch kp (kp + 1) (by rw [List.length_append, List.length_take, HX.out]; omega) (by rw [List.length_append, List.length_take, HX.out, List.length_nil]; omega)
          have e2 : (X ++ A.take t) ++ y :: ([] ++ A[t] :: (A.drop (t + 1) ++ Y)) = X ++ A.take (kp - a) ++ y :: (A.drop (kp - a) ++ Y) := by
            rw [ht, List.drop_eq_getElem_cons htB]
            simp only [List.append_assoc, List.cons_append, List.nil_append]
          rw [e2] at X0
          generalize A[t] = x at X0
          obtain ⟨c0, c1, c2, c3, f0, f1, f2, f3⟩ := X0.cx
          obtain ⟨d0, d1, d2, d3, k0, k1, k2, k3⟩ := X0.cy
          have HS2 := hid X0.so2
          have hz1 : (i : Int) < (kp : Int) + 1 := by omega
          have hz2 : (kp : Int) + 1 < (n : Int) := by omega
          have hz3 : (kp : Int) < (n : Int) := by omega
          have hne : kp + 1 ≠ kp := by omega
          have mixed : Try.prog.follows .mixedOrders = true := by kernel_rfl
          clear X0 hso0 hso e2 ht
          go_wp2_with fail
          go_big_region_o
          all_goals go_wp2
          all_goals
            go_roundw
            case rel => exact ⟨kp, by go_num, by omega, by omega, HS2.out⟩
            case measure => simp [intOf]
        · have hte : k - a = p := by have := HP.out; omega
          rw [hte] at hso
          have HSF := hid hso
          have hz1 : ¬ (i : Int) < (k : Int) := by omega
          clear hso hte
          go_wp2_with fail
          go_end0
          refine ⟨rfl, A.take p ++ y :: A.drop p, HPUT.out.1, HPUT.out.2, ?_⟩
          have h := HSF.out
          simp only [List.append_assoc, List.cons_append] at h ⊢
          exact h
end Go.Proofs.Ytgidgmgpgfonnaa
/- What symMerge does to a row of items, behind its turning. -/
namespace Go.Proofs.Ytgidgmgpgfonnaa
open Go.RowKit Go.Deep

theorem split_facts {A B : List Bk} (hA : Sd ltI A) (hB : Sd ltI B) (p q : Nat) (hp : p ≤ A.length) (hq : q ≤ B.length)
    (hlo : 0 < p → q < B.length → ∃ u v, A[p - 1]? = some u ∧ B[q]? = some v ∧ Le ltI u v) (hhi : p < A.length → 0 < q → ∃ u v, A[p]? = some u ∧ B[q - 1]? = some v ∧ ltI v u = true) :
    (∀ x ∈ A.drop p, ∀ y ∈ B.take q, ltI y x = true) ∧ (∀ x ∈ A.take p, ∀ y ∈ B.drop q, Le ltI x y) := by
  constructor
  · intro x hx y hy
    have h1 : p < A.length := by
      have := List.length_pos_of_mem hx
      rw [List.length_drop] at this
      omega
    have h2 : 0 < q := by
      have := List.length_pos_of_mem hy
      rw [List.length_take] at this
      omega
    obtain ⟨u, v, hu, hv, huv⟩ := hhi h1 h2
    obtain ⟨_, hu⟩ := List.getElem?_eq_some_iff.1 hu
    obtain ⟨hvl, hv⟩ := List.getElem?_eq_some_iff.1 hv
    have h3 := sd_low2 hB v q (fun hl _ => by rw [hv]; exact swoI.irr _) hq y hy
    have h4 := sd_high hA u p (fun hl => by rw [hu]; exact swoI.irr _) x hx
    exact swoI.lt_le (swoI.le_lt h3 huv) h4
  · intro x hx y hy
    have h1 : q < B.length := by
      have := List.length_pos_of_mem hy
      rw [List.length_drop] at this
      omega
    have h2 : 0 < p := by
      have := List.length_pos_of_mem hx
      rw [List.length_take] at this
      omega
    obtain ⟨u, v, hu, hv, huv⟩ := hlo h2 h1
    obtain ⟨_, hu⟩ := List.getElem?_eq_some_iff.1 hu
    obtain ⟨hvl, hv⟩ := List.getElem?_eq_some_iff.1 hv
    have h3 := sd_low2 hA u p (fun hl _ => by rw [hu]; exact swoI.irr _) hp x hx
    have h4 := sd_high hB v q (fun hl => by rw [hv]; exact swoI.irr _) y hy
    exact swoI.le_trans (swoI.le_trans h3 huv) h4
theorem rotate_at (g cap : Nat) (cmp : Value) (l X0 A B Y0 : List Bk) (a m b n : Nat) (w : World) (hl : l = X0 ++ A ++ B ++ Y0) (ha : X0.length = a) (hm : (X0 ++ A).length = m) (hb : (X0 ++ A ++ B).length = b) (hn : l.length = n) (hA : 0 < A.length) (hB : 0 < B.length) (hR : Rw bkCells w g cap l) (hz : l.length ≤ 2097152) :
    Calls Try.prog 93 #[.slice (some ⟨g, 0, none⟩) n cap, .int .i64 a, .int .i64 m, .int .i64 b, cmp] w fun e w' => e = .returned (.tuple #[]) ∧ So bkCells w g cap (X0 ++ B ++ A ++ Y0) w' := by
  subst hl ha hm hb hn
  exact rotate_any g cap cmp X0 A B Y0 w hA hB hR hz
/-- symMerge of stretches of so many items. -/
def SymK (k : Nat) : Prop := ∀ (g cap gb : Nat) (X A B Y : List Bk) (w : World), A.length + B.length ≤ k → 0 < A.length → 0 < B.length → Gb w g gb → Rw bkCells w g cap (X ++ A ++ B ++ Y) → (X ++ A ++ B ++ Y).length ≤ 2097152 → Sd ltI A → Sd ltI B → ∀ (a m b n : Nat), X.length = a → a + A.length = m → m + B.length = b → (X ++ A ++ B ++ Y).length = n →
  Calls Try.prog 82 #[.slice (some ⟨g, 0, none⟩) n cap, .int .i64 a, .int .i64 m, .int .i64 b, cmpV gb] w (MrgEnd w g cap X A B Y)
def rt : Code → Code
  | .seq _ b => b
  | c => c
/-- What symMerge does behind its turning. -/
noncomputable def tail82 : Code := rt (rt (rt (rt (rt (rt (rt (rt (rt (rt (Try.f82.body.getD .skip))))))))))
set_option maxRecDepth 1000000 in
set_option maxHeartbeats 16000000 in
theorem mrg_tail (k : Nat) (IH : SymK k) (g cap gb : Nat) (X A1 A2 B1 B2 Y : List Bk) (w0 w1 : World) (a m b n mid N s E : Nat) (hg : Gb w0 g gb) (hso : So bkCells w0 g cap (X ++ (A1 ++ B1) ++ (A2 ++ B2) ++ Y) w1) (hn : n ≤ 2097152) (hX : X.length = a) (hY : Y.length = n - b) (hK : b - a ≤ k + 1) (hbn : b ≤ n) (hd1 : a + 1 ≤ mid) (hd2 : mid < b) (hN : mid + m = N) (hEb : E ≤ b) (hsm : s ≤ m) (has : a ≤ s) (hsd : s ≤ mid) (hEs : s + E = N) (hsA : Sd ltI (A1 ++ A2)) (hsB : Sd ltI (B1 ++ B2))
    (st : Stb ltI (A1 ++ A2 ++ (B1 ++ B2)) (A1 ++ B1 ++ (A2 ++ B2))) (le : ∀ x ∈ A1 ++ B1, ∀ y ∈ A2 ++ B2, Le ltI x y) (lA1 : A1.length = s - a) (lA2 : A2.length = m - s) (lB1 : B1.length = mid - s) (lB2 : B2.length = b - E) (u5 u6 u7 u8 u9 u10 u11 u12 u13 u14 u15 u16 u17 u19 u21 u22 u23 u25 u26 u27 u28 u29 u30 u31 u32 u33 u34 u35 u36 u37 u38 u39 u40 u41 u42 u43 u44 u45 u46 u47 u48 u49 u50 u51 u52 u53 u54 u55 u56 u57 u58 u59 u60 u61 u62 u63 u64 u65 u66 u67 u68 u69 u70 u71 u72 u73 u74 u75 u76 u77 u78 u79 u80 u81 u82 u83 u84 u85 u86 u87 u88 u89 u90 u91 u92 u93 u94 u95 u96 u97 u98 u99 u100 u101 u102 u103 u104 u105 u106 u107 u108 u109 u110 u111 u112 u113 u114 u115 u116 u117 u118 u119 u120 u121 u122 u123 u124 u125 u126 u127 u128 u129 u130 u131 u132 u133 u134 u135 u136 u137 u138 u139 u140 u141 u142 u143 u144 u145 u146 u147 u148 u149 u150 u151 u152 u153 u154 u155 u156 u157 u158 u159 u160 u161 u162 u163 u164 u165 u166 u167 u168 u169 u170 u171 u172 u173 u174 u175 u176 u177 u178 u179 u180 u181 u182 u183 u184 u185 u186 u187 u188 u189 u190 u191 u192 u193 u194 u195 u196 u197 u198 u199 u200 u201 u202 u203 u204 u205 u206 u207 u208 u209 u210 u211 u212 u213 u214 u215 u216 u217 u218 u219 : Value) :
    Code.wp Try.prog tail82 (bodyPost Try.prog Try.f82 (MrgEnd w0 g cap X (A1 ++ A2) (B1 ++ B2) Y)) ⟨#[(.slice (some ⟨g, 0, none⟩) n cap), (.int .i64 a), (.int .i64 m), (.int .i64 b), (cmpV gb), u5, u6, u7, u8, u9, u10, u11, u12, u13, u14, u15, u16, u17, (.int .i64 mid), u19, (.int .i64 s), u21, u22, u23, (.int .i64 E), u25, u26, u27, u28, u29, u30, u31, u32, u33, u34, u35, u36, u37, u38, u39, u40, u41, u42, u43, u44, u45, u46, u47, u48, u49, u50, u51, u52, u53, u54, u55, u56, u57, u58, u59, u60, u61, u62, u63, u64, u65, u66, u67, u68, u69, u70, u71, u72, u73, u74, u75, u76, u77, u78, u79, u80, u81, u82, u83, u84, u85, u86, u87, u88, u89, u90, u91, u92, u93, u94, u95, u96, u97, u98, u99, u100, u101, u102, u103, u104, u105, u106, u107, u108, u109, u110, u111, u112, u113, u114, u115, u116, u117, u118, u119, u120, u121, u122, u123, u124, u125, u126, u127, u128, u129, u130, u131, u132, u133, u134, u135, u136, u137, u138, u139, u140, u141, u142, u143, u144, u145, u146, u147, u148, u149, u150, u151, u152, u153, u154, u155, u156, u157, u158, u159, u160, u161, u162, u163, u164, u165, u166, u167, u168, u169, u170, u171, u172, u173, u174, u175, u176, u177, u178, u179, u180, u181, u182, u183, u184, u185, u186, u187, u188, u189, u190, u191, u192, u193, u194, u195, u196, u197, u198, u199, u200, u201, u202, u203, u204, u205, u206, u207, u208, u209, u210, u211, u212, u213, u214, u215, u216, u217, u218, u219], []⟩ w1 := by
  have HIH := hid IH; have HG := hid hg; have HSO1 := hid hso; have HG3 := hid (hg.fr hso.fr); have HX := hid hX; have HY := hid hY; have HK := hid hK; have HN := hid hN; have HEs := hid hEs
  have HSA := hid hsA; have HSB := hid hsB; have ST := hid st; have LE := hid le
  have LA1 := hid lA1; have LA2 := hid lA2; have LB1 := hid lB1; have LB2 := hid lB2
  clear IH hg hso hX hY hK hN hEs hsA hsB st le lA1 lA2 lB1 lB2
  conv => arg 2; whnf
  conv => arg 4; zeta
  go_upto_region 41 with fail
  go_cut [199] (fun v wd => v = .bool (decide (a < s ∧ s < mid)) ∧ wd = w1)
  case first =>
    by_cases h1 : a < s
    · by_cases h2 : s < mid
      · go_wp2_with fail
        go_meet
        exact ⟨by simp [h1, h2], rfl⟩
      · go_wp2_with fail
        go_meet
        exact ⟨by simp [h1, h2], rfl⟩
    · go_wp2_with fail
      go_meet
      exact ⟨by simp [h1], rfl⟩
  case rest =>
  obtain ⟨rfl, rfl⟩ := hcut
  rename World => w2
  go_upto_if 199 with fail
  go_cut [20] (fun v wd => v = .int .i64 s ∧ ∃ C1, Sd ltI C1 ∧ Stb ltI (A1 ++ B1) C1 ∧ So bkCells w0 g cap (X ++ C1 ++ (A2 ++ B2) ++ Y) wd)
  case first =>
    by_cases h1 : a < s ∧ s < mid
    · rw [decide_eq_true h1]
      have hrec := HIH.out g cap gb X A1 B1 (A2 ++ B2 ++ Y) w2 (by have := LA1.out; have := LB1.out; have := HK.out; omega) (by rw [LA1.out]; omega) (by rw [LB1.out]; omega) HG3.out (by have h := HSO1.out.row; simp only [List.append_assoc] at h ⊢; exact h) (by have := HEs.out; have := HN.out; simp only [List.length_append, HX.out, LA1.out, LA2.out, LB1.out, LB2.out, HY.out]; omega) (sd_parts HSA.out).1 (sd_parts HSB.out).1 a s mid n HX.out (by rw [LA1.out]; omega) (by rw [LB1.out]; omega) (by have := HEs.out; have := HN.out; simp only [List.length_append, HX.out, LA1.out, LA2.out, LB1.out, LB2.out, HY.out]; omega)
      have HREC := hid hrec
      clear hrec
      go_wp2_with fail
      refine HREC.out.mono ?_
      rintro e w3 ⟨rfl, C1, hc1, hc2, hs1⟩
      have HS1 := hid (HSO1.out.trans hs1); have HC1 := hid hc1; have HC2 := hid hc2
      clear hs1 hc1 hc2
      go_wp2_with fail
      go_meet
      refine ⟨rfl, C1, HC1.out, HC2.out, ?_⟩
      have h := HS1.out
      simp only [List.append_assoc] at h ⊢
      exact h
    · rw [decide_eq_false h1]
      go_wp2_with fail
      go_meet
      refine ⟨rfl, A1 ++ B1, ?_, Stb.refl _, HSO1.out⟩
      have := LA1.out; have := LB1.out
      by_cases h2 : a < s
      · rw [List.eq_nil_of_length_eq_zero (l := B1) (by omega), List.append_nil]
        exact (sd_parts HSA.out).1
      · rw [List.eq_nil_of_length_eq_zero (l := A1) (by omega), List.nil_append]
        exact (sd_parts HSB.out).1
  case rest =>
  obtain ⟨rfl, C1, hc1, hc2, hso2⟩ := hcut
  rename World => w4
  have HC1 := hid hc1; have HC2 := hid hc2; have HSO2 := hid hso2
  have HG4 := hid (HG.out.fr hso2.fr)
  have lC1 : C1.length = mid - a := by have := LA1.out; have := LB1.out; rw [← hc2.len, List.length_append]; omega
  have LC1 := hid lC1
  clear hc1 hc2 hso2 HSO1 HG3 lC1
  go_upto_region 43 with fail
  go_cut [213] (fun v wd => v = .bool (decide (mid < E ∧ E < b)) ∧ wd = w4)
  case first =>
    by_cases h1 : mid < E
    · by_cases h2 : E < b
      · go_wp2_with fail
        go_meet
        exact ⟨by simp [h1, h2], rfl⟩
      · go_wp2_with fail
        go_meet
        exact ⟨by simp [h1, h2], rfl⟩
    · go_wp2_with fail
      go_meet
      exact ⟨by simp [h1], rfl⟩
  case rest =>
  obtain ⟨rfl, rfl⟩ := hcut
  rename World => w5
  have hEs := HEs.out; have hN := HN.out
  by_cases h1 : mid < E ∧ E < b
  · rw [decide_eq_true h1]
    have hrec := HIH.out g cap gb (X ++ C1) A2 B2 Y w5 (by have := LA2.out; have := LB2.out; have := HK.out; omega) (by rw [LA2.out]; omega) (by rw [LB2.out]; omega) HG4.out (by have h := HSO2.out.row; simp only [List.append_assoc] at h ⊢; exact h) (by simp only [List.length_append, HX.out, LC1.out, LA2.out, LB2.out, HY.out]; omega) (sd_parts HSA.out).2.1 (sd_parts HSB.out).2.1 mid E b n (by rw [List.length_append, HX.out, LC1.out]; omega) (by rw [LA2.out]; omega) (by rw [LB2.out]; omega) (by simp only [List.length_append, HX.out, LC1.out, LA2.out, LB2.out, HY.out]; omega)
    have HREC := hid hrec
    clear hrec hEs hN
    go_wp2_with fail
    refine HREC.out.mono ?_
    rintro e w6 ⟨rfl, C2, hc1, hc2, hs1⟩
    have HS1 := hid (HSO2.out.trans hs1); have HD1 := hid hc1; have HD2 := hid hc2
    clear hs1 hc1 hc2
    go_wp2_with fail
    go_end0
    have hh := halves ST.out HC2.out HD2.out HC1.out HD1.out LE.out
    refine ⟨rfl, C1 ++ C2, hh.1, hh.2, ?_⟩
    have h := HS1.out
    simp only [List.append_assoc] at h ⊢
    exact h
  · rw [decide_eq_false h1]
    have hs2 : Sd ltI (A2 ++ B2) := by
      have := LA2.out; have := LB2.out
      by_cases h2 : mid < E
      · rw [List.eq_nil_of_length_eq_zero (l := B2) (by omega), List.append_nil]
        exact (sd_parts HSA.out).2.1
      · rw [List.eq_nil_of_length_eq_zero (l := A2) (by omega), List.nil_append]
        exact (sd_parts HSB.out).2.1
    have hh := halves ST.out HC2.out (Stb.refl (A2 ++ B2)) HC1.out hs2 LE.out
    have HH := hid hh
    clear hs2 hh hEs hN
    go_wp2_with fail
    go_end0
    refine ⟨rfl, C1 ++ (A2 ++ B2), HH.out.1, HH.out.2, ?_⟩
    have h := HSO2.out
    simp only [List.append_assoc] at h ⊢
    exact h
end Go.Proofs.Ytgidgmgpgfonnaa
/- What symMerge does to a row of items. -/
namespace Go.Proofs.Ytgidgmgpgfonnaa
open Go.RowKit Go.Deep

set_option maxRecDepth 100000 in
set_option maxHeartbeats 16000000 in
theorem mrg_main (k : Nat) (IH : SymK k) (g cap gb : Nat) (X A B Y : List Bk) (w : World) (hk : A.length + B.length ≤ k + 1) (hA2 : 2 ≤ A.length) (hB2 : 2 ≤ B.length) (hg : Gb w g gb) (hR : Rw bkCells w g cap (X ++ A ++ B ++ Y)) (hn : (X ++ A ++ B ++ Y).length ≤ 2097152) (hsA : Sd ltI A) (hsB : Sd ltI B) (a m b n : Nat) (ha : X.length = a) (hm : a + A.length = m) (hb : m + B.length = b) (hl : (X ++ A ++ B ++ Y).length = n) :
    Calls Try.prog 82 #[.slice (some ⟨g, 0, none⟩) n cap, .int .i64 a, .int .i64 m, .int .i64 b, cmpV gb] w (MrgEnd w g cap X A B Y) := by
  rw [hl] at hn
  have hN' : a + A.length + B.length + Y.length = n := by rw [← hl, ← ha]; simp only [List.length_append]
  have HG := hid hg; have HR := hid hR; have HSA := hid hsA; have HSB := hid hsB; have HX := hid ha
  have HA : Hid (A.length = m - a) := hid (by omega)
  have HB : Hid (B.length = b - m) := hid (by omega)
  have HY : Hid (Y.length = n - b) := hid (by omega)
  have HK : Hid (b - a ≤ k + 1) := hid (by omega)
  have HIH := hid IH
  have hbn : b ≤ n := by omega
  have ham : a + 2 ≤ m := by omega
  have hmb2 : m + 2 ≤ b := by omega
  have hma : ¬ (m : Int) - (a : Int) = 1 := by omega
  have hmb : ¬ (b : Int) - (m : Int) = 1 := by omega
  clear hg hR hsA hsB hl ha hN' hb hm hA2 hB2 hk IH
  go_enter Try.func82, Try.ntmps82
  go_upto_region 25 with fail
  have hh : ((a : Int) + (b : Int)) / 2 = (((a + b) / 2 : Nat) : Int) := by omega
  rw [hh]
  clear hh
  obtain ⟨mid, hmid⟩ : ∃ mid, (a + b) / 2 = mid := ⟨_, rfl⟩
  rw [hmid]
  have hd1 : a + 1 ≤ mid := by omega
  have hd2 : mid < b := by omega
  have hd3 : 2 * mid ≤ a + b := by omega
  have hd4 : a + b ≤ 2 * mid + 1 := by omega
  clear hmid
  go_upto_region 27 with fail
  obtain ⟨N, hN⟩ : ∃ N, mid + m = N := ⟨_, rfl⟩
  have hNi : (mid : Int) + (m : Int) = (N : Int) := by omega
  rw [hNi]
  have HN := hid hN
  clear hN hNi
  go_cut [140] (fun v wc => v = .bool (decide (mid < m)) ∧ wc = w)
  case first =>
    by_cases h1 : mid < m
    · go_wp2_with fail
      go_meet
      exact ⟨by simp [h1], rfl⟩
    · go_wp2_with fail
      go_meet
      exact ⟨by simp [h1], rfl⟩
  case rest =>
  obtain ⟨rfl, rfl⟩ := hcut
  rename World => w9
  go_upto_if 140 with fail
  go_cut [20, 21] (fun sv rv wd => ∃ s0 r0 : Nat, sv = .int .i64 s0 ∧ rv = .int .i64 r0 ∧ a ≤ s0 ∧ s0 ≤ r0 ∧ r0 ≤ m ∧ r0 ≤ mid ∧ N ≤ b + s0 ∧ (r0 = m ∨ r0 = mid) ∧ (s0 = a ∨ N = b + s0) ∧ wd = w9)
  case first =>
    have hN := HN.out
    by_cases h1 : mid < m
    · rw [decide_eq_true h1]
      obtain ⟨D, hD⟩ : ∃ D, N - b = D := ⟨_, rfl⟩
      have hz : (N : Int) - (b : Int) = (D : Int) := by omega
      have hDb : D ≤ 2097152 := by omega
      have HD := hid hD
      clear hN hD
      go_wp2_with fail
      go_meet
      have hN := HN.out; have hD := HD.out
      exact ⟨D, mid, rfl, rfl, by omega, by omega, by omega, by omega, by omega, .inr rfl, .inr (by omega), rfl⟩
    · rw [decide_eq_false h1]
      clear hN
      go_wp2_with fail
      go_meet
      have hN := HN.out
      exact ⟨a, m, rfl, rfl, by omega, by omega, by omega, by omega, by omega, .inl rfl, .inl rfl, rfl⟩
  case rest =>
  obtain ⟨s0, r0, rfl, rfl, k1, k2, k3, k4, k5, k6, k7, rfl⟩ := hcut
  rename World => w0
  have HK6 := hid k6; have HK7 := hid k7
  clear k6 k7
  have hN1 : m < N := by have := HN.out; omega
  have hN2 : N ≤ 2097152 * 2 := by have := HN.out; omega
  obtain ⟨p1, hp1⟩ : ∃ p1, p1 + 1 = N := ⟨N - 1, by omega⟩
  have hpi : (N : Int) - 1 = (p1 : Int) := by omega
  have HP1 := hid hp1
  clear hp1
  go_upto_region 33 with fail
  clear hpi
  go_loopw [20, 21, 23] (fun sv rv _ wr => ∃ (s r : Nat), sv = .int .i64 s ∧ rv = .int .i64 r ∧ s0 ≤ s ∧ s ≤ r ∧ r ≤ r0 ∧ (s0 < s → ∃ u v, A[s - 1 - a]? = some u ∧ B[N - s - m]? = some v ∧ Le ltI u v) ∧ (r < r0 → ∃ u v, A[r - a]? = some u ∧ B[N - 1 - r - m]? = some v ∧ ltI v u = true) ∧ So bkCells w0 g cap (X ++ A ++ B ++ Y) wr) (fun sv rv _ _ => (intOf rv).toNat - (intOf sv).toNat)
  case atStart => exact ⟨s0, r0, rfl, rfl, Nat.le_refl _, k2, Nat.le_refl _, fun h => absurd h (by omega), fun h => absurd h (by omega), HR.out, Fr.refl _ _⟩
  case round =>
    obtain ⟨s, r, rfl, rfl, hs0, hsr, hr0, hlo, hhi, hso⟩ := hrel
    have HLO := hid hlo; have HHI := hid hhi; have HSO := hid hso
    clear hlo hhi hso
    by_cases hlt : s < r
    · go_wp2_with fail
      have hh : ((s : Int) + (r : Int)) / 2 = (((s + r) / 2 : Nat) : Int) := by omega
      have h1 : s ≤ (s + r) / 2 := by omega
      have h2 : (s + r) / 2 < r := by omega
      rw [hh]
      clear hh
      generalize (s + r) / 2 = c at h1 h2 ⊢
      have hp1 := HP1.out; have hN := HN.out; have hX := HX.out; have hA := HA.out; have hB := HB.out
      obtain ⟨d, hd⟩ : ∃ d, p1 - c = d := ⟨_, rfl⟩
      have hdi : (p1 : Int) - (c : Int) = (d : Int) := by omega
      have hdm : m ≤ d := by omega
      have hdb : d < b := by omega
      have hcl : c - a < A.length := by omega
      have hdl : d - m < B.length := by omega
      obtain ⟨u, hu⟩ : ∃ u, A[c - a] = u := ⟨_, rfl⟩
      obtain ⟨v, hv⟩ : ∃ v, B[d - m] = v := ⟨_, rfl⟩
      have hu' : A[c - a]? = some u := by rw [← hu]; exact List.getElem?_eq_getElem hcl
      have hv' : B[d - m]? = some v := by rw [← hv]; exact List.getElem?_eq_getElem hdl
      have gu : (X ++ A ++ B ++ Y)[c]? = some u := by
        rw [List.append_assoc (X ++ A), List.getElem?_append_left (by rw [List.length_append]; omega), List.getElem?_append_right (by omega), hX]
        exact hu'
      have gv : (X ++ A ++ B ++ Y)[d]? = some v := by
        rw [List.getElem?_append_left (by rw [List.length_append, List.length_append]; omega), List.getElem?_append_right (by rw [List.length_append]; omega), List.length_append, hX, hA, show d - (a + (m - a)) = d - m by omega]
        exact hv'
      obtain ⟨c0, c1, c2, c3, _, _, _, _⟩ := HSO.out.cel gv
      obtain ⟨d0, d1, d2, d3, _, _, _, _⟩ := HSO.out.cel gu
      obtain ⟨cv, hcv⟩ : ∃ cv, cmpK v.1 u.1 = cv := ⟨_, rfl⟩
      have HNN : Hid (∀ W, Below wr.heap.size wr W → Calls Try.prog 44 #[.agg #[.string v.1, .string v.2.x.1, .int .i64 v.2.x.2, .slice v.2.a (lenF v.2.l) v.2.c], .agg #[.string u.1, .string u.2.x.1, .int .i64 u.2.x.2, .slice u.2.a (lenF u.2.l) u.2.c]] W fun e w' => e = .returned (.int .i64 cv) ∧ Below W.heap.size W w') := hid fun W _ => by
        rw [← hcv]
        exact gcmp_any v u W
      have hcl2 := cmp_lt v u
      rw [hcv] at hcl2
      have HCL := hid hcl2; have HU := hid hu'; have HV := hid hv'; have HD := hid hd
      clear gu gv hu hv hu' hv' hcv hcl2 hcl hdl hd hp1 hN hX hA hB
      have hz1 : (c : Int) < (n : Int) := by omega
      have hz2 : (d : Int) < (n : Int) := by omega
      go_wp2_with fail
      have hne := later_some wr
      have l0 := later_cell c0; have l1 := later_cell c1; have l2 := later_cell c2; have l3 := later_cell c3
      have m0 := later_cell d0; have m1 := later_cell d1; have m2 := later_cell d2; have m3 := later_cell d3
      clear c0 c1 c2 c3 d0 d1 d2 d3
      refine wp_region_later (by kernel_rfl) (by kernel_rfl) ?_
      repeat (go_big_quiet_step (first | (go_at_call 44; with_reducible refine calls_later (HNN.out _ ?_); exact Later.below _) | fail))
      refine wpQuiet_nil ?_
      intro _ hw'
      obtain ⟨b4, hw''⟩ := hw'
      subst hw''
      have HSB4 := hid (HSO.out.below b4.below)
      clear l0 l1 l2 l3 m0 m1 m2 m3 hne HNN hdi
      by_cases hcv : cv < 0
      · have hdd : (!decide (cv < 0)) = false := by rw [decide_eq_true hcv]; rfl
        go_wp2_with fail
        all_goals try exact absurd ((show (!decide (cv < 0)) = true by assumption).symm.trans hdd) (by decide)
        go_roundw
        case rel => exact ⟨s, c, rfl, rfl, by omega, by omega, by omega, HLO.out, fun _ => ⟨u, v, HU.out, by have h := HV.out; rw [← HD.out] at h; rw [show N - 1 - c - m = p1 - c - m by have := HP1.out; omega]; exact h, HCL.out.1 hcv⟩, HSB4.out⟩
        case measure => simp [intOf]; omega
      · have hdd : (!decide (cv < 0)) = true := by rw [decide_eq_false hcv]; rfl
        go_wp2_with fail
        all_goals try exact absurd (hdd.symm.trans (show (!decide (cv < 0)) = false by assumption)) (by decide)
        go_roundw
        case rel => exact ⟨c + 1, r, by go_num, rfl, by omega, by omega, by omega, fun _ => ⟨u, v, by rw [show c + 1 - 1 - a = c - a by omega]; exact HU.out, by have h := HV.out; rw [← HD.out] at h; rw [show N - (c + 1) - m = p1 - c - m by have := HP1.out; omega]; exact h, le_of_not HCL.out hcv⟩, HHI.out, HSB4.out⟩
        case measure => simp [intOf]; omega
    · have hse : s = r := by omega
      subst hse
      have hp1 := HP1.out; have hN := HN.out; have hX := HX.out; have hA := HA.out; have hB := HB.out
      obtain ⟨E, hE⟩ : ∃ E, N - s = E := ⟨_, rfl⟩
      have hEi : (N : Int) - (s : Int) = (E : Int) := by omega
      have hEm : m ≤ E := by omega
      have hEb : E ≤ b := by omega
      have hEs : s + E = N := by omega
      have hsm : s ≤ m := by omega
      have has : a ≤ s := by omega
      have hsd : s ≤ mid := by omega
      obtain ⟨f1, f2⟩ := split_facts HSA.out HSB.out (s - a) (E - m) (by omega) (by omega) (fun h3 h4 => by
        obtain ⟨u, v, g1, g2, g3⟩ := HLO.out (by rcases HK7.out with h | h <;> omega)
        exact ⟨u, v, by rw [show s - a - 1 = s - 1 - a by omega]; exact g1, by rw [← hE]; exact g2, g3⟩) (fun h3 h4 => by
        obtain ⟨u, v, g1, g2, g3⟩ := HHI.out (by rcases HK6.out with h | h <;> omega)
        exact ⟨u, v, g1, by rw [show E - m - 1 = N - 1 - s - m by omega]; exact g2, g3⟩)
      have hA12 := (List.take_append_drop (s - a) A).symm
      have hB12 := (List.take_append_drop (E - m) B).symm
      have lA1 : (A.take (s - a)).length = s - a := by rw [List.length_take]; omega
      have lA2 : (A.drop (s - a)).length = m - s := by rw [List.length_drop]; omega
      have lB1 : (B.take (E - m)).length = mid - s := by rw [List.length_take]; omega
      have lB2 : (B.drop (E - m)).length = b - E := by rw [List.length_drop]; omega
      generalize A.take (s - a) = A1 at f1 f2 hA12 lA1
      generalize A.drop (s - a) = A2 at f1 f2 hA12 lA2
      generalize B.take (E - m) = B1 at f1 f2 hB12 lB1
      generalize B.drop (E - m) = B2 at f1 f2 hB12 lB2
      have hsA := HSA.out; have hsB := HSB.out
      subst hA12 hB12
      obtain ⟨st, le⟩ := turned swoI A1 A2 B1 B2 hsA hsB f1 f2
      have ST := hid st; have LE := hid le
      have LA1 := hid lA1; have LA2 := hid lA2; have LB1 := hid lB1; have LB2 := hid lB2
      have HEs := hid hEs
      clear f1 f2 st le hp1 hN hX hA hB hE lA1 lA2 lB1 lB2 hsA hsB hEs
      have HG2 := hid (HG.out.fr HSO.out.fr)
      go_upto_region 39 with fail
      clear hEi
      go_cut [185] (fun v wd => v = .bool (decide (s < m ∧ m < E)) ∧ wd = wr)
      case first =>
        by_cases h1 : s < m
        · by_cases h2 : m < E
          · go_wp2_with fail
            go_meet
            exact ⟨by simp [h1, h2], rfl⟩
          · go_wp2_with fail
            go_meet
            exact ⟨by simp [h1, h2], rfl⟩
        · go_wp2_with fail
          go_meet
          exact ⟨by simp [h1], rfl⟩
      case rest =>
      obtain ⟨rfl, rfl⟩ := hcut
      rename World => wo
      go_upto_if 185 with fail
      go_cut [20] (fun v wd => v = .int .i64 s ∧ So bkCells w0 g cap (X ++ (A1 ++ B1) ++ (A2 ++ B2) ++ Y) wd)
      case first =>
        by_cases h1 : s < m ∧ m < E
        · rw [decide_eq_true h1]
          have hrot := rotate_at g cap (cmpV gb) (X ++ (A1 ++ A2) ++ (B1 ++ B2) ++ Y) (X ++ A1) A2 B1 (B2 ++ Y) s m E n wo (by simp only [List.append_assoc]) (by rw [List.length_append, HX.out, LA1.out]; omega) (by simp only [List.length_append, HX.out, LA1.out, LA2.out]; omega) (by have := HEs.out; have := HN.out; simp only [List.length_append, HX.out, LA1.out, LA2.out, LB1.out]; omega) (by have := HEs.out; have := HN.out; simp only [List.length_append, HX.out, LA1.out, LA2.out, LB1.out, LB2.out, HY.out]; omega) (by rw [LA2.out]; omega) (by have := HEs.out; have := HN.out; rw [LB1.out]; omega) HSO.out.row (by have := HEs.out; have := HN.out; simp only [List.length_append, HX.out, LA1.out, LA2.out, LB1.out, LB2.out, HY.out]; omega)
          have HROT := hid hrot
          clear hrot
          go_wp2_with fail
          refine HROT.out.mono ?_
          rintro e w1 ⟨rfl, hs1⟩
          have HS1 := hid (HSO.out.trans hs1)
          clear hs1
          go_wp2_with fail
          go_meet
          refine ⟨rfl, ?_⟩
          have h := HS1.out
          simp only [List.append_assoc] at h ⊢
          exact h
        · rw [decide_eq_false h1]
          go_wp2_with fail
          go_meet
          refine ⟨rfl, ?_⟩
          have h := HSO.out
          have he : A2 ++ B1 = B1 ++ A2 := by
            have := HEs.out; have := HN.out; have := LA2.out; have := LB1.out
            by_cases h2 : s < m
            · rw [List.eq_nil_of_length_eq_zero (l := B1) (by omega)]
              simp
            · rw [List.eq_nil_of_length_eq_zero (l := A2) (by omega)]
              simp
          have h3 : X ++ (A1 ++ A2) ++ (B1 ++ B2) ++ Y = X ++ (A1 ++ B1) ++ (A2 ++ B2) ++ Y := by
            have h4 : A1 ++ A2 ++ (B1 ++ B2) = A1 ++ (A2 ++ B1) ++ B2 := by simp only [List.append_assoc]
            rw [List.append_assoc X, h4, he]
            simp only [List.append_assoc]
          rw [h3] at h
          exact h
      case rest =>
      obtain ⟨rfl, hso1⟩ := hcut
      rename ∀ (a : Act) (w : World), Code.wp Try.prog _ _ a w → _ => hK
      refine hK _ _ ?_
      exact mrg_tail k HIH.out g cap gb X A1 A2 B1 B2 Y w0 _ a m b n mid N s E HG.out hso1 hn HX.out HY.out HK.out hbn hd1 hd2 HN.out hEb hsm has hsd HEs.out HSA.out HSB.out ST.out LE.out LA1.out LA2.out LB1.out LB2.out _ _ _ _ _ _ _ _ _ _ _ _ _ _ _ _ _ _ _ _ _ _ _ _ _ _ _ _ _ _ _ _ _ _ _ _ _ _ _ _ _ _ _ _ _ _ _ _ _ _ _ _ _ _ _ _ _ _ _ _ _ _ _ _ _ _ _ _ _ _ _ _ _ _ _ _ _ _ _ _ _ _ _ _ _ _ _ _ _ _ _ _ _ _ _ _ _ _ _ _ _ _ _ _ _ _ _ _ _ _ _ _ _ _ _ _ _ _ _ _ _ _ _ _ _ _ _ _ _ _ _ _ _ _ _ _ _ _ _ _ _ _ _ _ _ _ _ _ _ _ _ _ _ _ _ _ _ _ _ _ _ _ _ _ _ _ _ _ _ _ _ _ _ _ _ _ _ _ _ _ _ _ _ _ _ _ _ _ _ _ _ _ _ _ _ _ _ _ _ _ _ _ _ _ _ _ _ _ _ _ _ _
theorem symMerge_any : ∀ k, SymK k
  | 0 => fun g cap gb X A B Y w hk hA hB => by omega
  | k + 1 => fun g cap gb X A B Y w hk hA hB hg hR hn hsA hsB a m b n ha hm hb hl => by
    by_cases h1 : A.length = 1
    · obtain ⟨x, rfl⟩ := List.length_eq_one_iff.1 h1
      exact mrg_left g cap gb X x B Y w hg hR hn hsB a m b n ha (by simpa using hm) hb hl
    · by_cases h2 : B.length = 1
      · obtain ⟨y, rfl⟩ := List.length_eq_one_iff.1 h2
        exact mrg_right g cap gb X A y Y w hg hR hn hsA (by omega) a m b n ha hm (by simpa using hb) hl
      · exact mrg_main k (symMerge_any k) g cap gb X A B Y w hk (by omega) (by omega) hg hR hn hsA hsB a m b n ha hm hb hl
end Go.Proofs.Ytgidgmgpgfonnaa
/- What the library's stable sort does to a row of items. -/
namespace Go.Proofs.Ytgidgmgpgfonnaa
open Go.RowKit Go.Deep
section
variable {α : Type}
theorem seg_split (r : List α) (a q : Nat) : r.take a ++ (r.drop a).take q ++ r.drop (a + q) = r := by
  rw [List.append_assoc, ← List.drop_drop, List.take_append_drop, List.take_append_drop]
theorem seg_split2 (r : List α) (a p q : Nat) : r.take a ++ (r.drop a).take p ++ (r.drop (a + p)).take q ++ r.drop (a + p + q) = r := by
  rw [← List.take_add, seg_split]
theorem seg_low {X Z : List α} {p q : Nat} (h : p + q ≤ X.length) : ((X ++ Z).drop p).take q = (X.drop p).take q := by
  rw [List.drop_append_of_le_length (by omega), List.take_append_of_le_length (by rw [List.length_drop]; omega)]
theorem seg_lows {X Z Z' : List α} {p q : Nat} (h : p + q ≤ X.length) : ((X ++ Z).drop p).take q = ((X ++ Z').drop p).take q := by rw [seg_low h, seg_low h]
theorem seg_high1 {Z Y : List α} {p : Nat} (hp : Z.length ≤ p) : (Z ++ Y).drop p = Y.drop (p - Z.length) := by
  rw [List.drop_append, List.drop_eq_nil_of_le hp, List.nil_append]
theorem seg_high {X S S' Y : List α} (h : S'.length = S.length) {p q : Nat} (hp : X.length + S.length ≤ p) : ((X ++ S' ++ Y).drop p).take q = ((X ++ S ++ Y).drop p).take q := by
  rw [seg_high1 (Z := X ++ S') (by rw [List.length_append]; omega), seg_high1 (Z := X ++ S) (by rw [List.length_append]; omega), List.length_append, List.length_append, h]
theorem seg_mid {X S Y : List α} {p q : Nat} (hp : X.length = p) (hq : S.length = q) : ((X ++ S ++ Y).drop p).take q = S := by
  subst hp hq
  rw [List.append_assoc, List.drop_left, List.take_left]
theorem seg_end {X S : List α} {p q : Nat} (hp : X.length = p) (hq : S.length ≤ q) : ((X ++ S ++ []).drop p).take q = S := by
  subst hp
  rw [List.append_nil, List.drop_left, List.take_of_length_le hq]
theorem seg_none {r : List α} {p q : Nat} (h : r.length ≤ p) : (r.drop p).take q = [] := by
  rw [List.drop_eq_nil_of_le h, List.take_nil]
end
theorem insertion_at (g cap gb : Nat) (l X S Y : List Bk) (a b n : Nat) (w : World) (hl : l = X ++ S ++ Y) (ha : X.length = a) (hb : a + S.length = b) (hn : l.length = n) (hg : Gb w g gb) (hR : Rw bkCells w g cap l) (hz : l.length ≤ 2097152) :
    Calls Try.prog 81 #[.slice (some ⟨g, 0, none⟩) n cap, .int .i64 a, .int .i64 b, cmpV gb] w fun e w' => e = .returned (.tuple #[]) ∧ ∃ S', Sd ltI S' ∧ Stb ltI S S' ∧ So bkCells w g cap (X ++ S' ++ Y) w' := by
  subst hl ha hb hn
  have h := insertion_any g cap gb X S Y w hg hR hz
  have e : (X ++ S).length = X.length + S.length := List.length_append
  rw [e] at h
  exact h
/-- Each block of so many is in order. -/
def Blk (bs : Nat) (r : List Bk) : Prop := ∀ i, Sd ltI ((r.drop (i * bs)).take bs)
set_option maxRecDepth 100000 in
set_option maxHeartbeats 8000000 in
theorem stable_any (g cap gb : Nat) (l : List Bk) (w : World) (hg : Gb w g gb) (hR : Rw bkCells w g cap l) (hn : l.length ≤ 2097152) :
    Calls Try.prog 63 #[.slice (some ⟨g, 0, none⟩) l.length cap, .int .i64 l.length, cmpV gb] w fun e w' => e = .returned (.tuple #[]) ∧ ∃ R, Sd ltI R ∧ Stb ltI l R ∧ So bkCells w g cap R w' := by
  obtain ⟨n, hN⟩ : ∃ n, l.length = n := ⟨_, rfl⟩
  rw [hN] at hn ⊢
  have HG := hid hg; have HR := hid hR; have HN := hid hN
  clear hg hR hN
  go_enter Try.func63, Try.ntmps63
  go_wp2_with fail
  go_loopw [7, 8] (fun av bv wr => ∃ (j : Nat) (r : List Bk), av = .int .i64 ((j * 20 : Nat) : Int) ∧ bv = .int .i64 ((j * 20 + 20 : Nat) : Int) ∧ j * 20 ≤ n ∧ Stb ltI l r ∧ (∀ i, i < j → Sd ltI ((r.drop (i * 20)).take 20)) ∧ So bkCells w g cap r wr) (fun av _ _ => n - (intOf av).toNat)
  case atStart => exact ⟨0, l, rfl, rfl, Nat.zero_le _, Stb.refl _, fun i hi => absurd hi (by omega), HR.out, Fr.refl _ _⟩
  case round =>
    obtain ⟨j, r, rfl, rfl, hjn, hst, hbl, hso⟩ := hrel
    have HST := hid hst; have HBL := hid hbl; have HSO := hid hso
    have hrl : r.length = n := by rw [← hst.len, HN.out]
    have HRL := hid hrl
    have HGr := hid (HG.out.fr hso.fr)
    clear hst hbl hso
    obtain ⟨a, ha⟩ : ∃ a, j * 20 = a := ⟨_, rfl⟩
    rw [ha] at hjn ⊢
    by_cases hlt : a + 20 ≤ n
    · have hc := insertion_at g cap gb r (r.take a) ((r.drop a).take 20) (r.drop (a + 20)) a (a + 20) n wr (seg_split r a 20).symm (by rw [List.length_take]; omega) (by rw [List.length_take, List.length_drop]; omega) hrl HGr.out HSO.out.row (by omega)
      have HC := hid hc; have HAJ := hid ha
      clear hc hrl ha
      generalize hb : a + 20 = b at hlt HC ⊢
      have HBB := hid hb
      clear hb
      go_wp2_with fail
      refine HC.out.mono ?_
      rintro e w1 ⟨rfl, S', hs1, hs2, hs3⟩
      have HS1 := hid hs1; have HS2 := hid hs2; have HS3 := hid (HSO.out.trans hs3)
      clear hs1 hs2 hs3
      go_wp2_with fail
      go_roundw
      case rel =>
        have hb := HBB.out; have haj := HAJ.out; have hrl := HRL.out
        have hlS : S'.length = ((r.drop a).take 20).length := HS2.out.len.symm
        have hl20 : S'.length = 20 := by rw [hlS, List.length_take, List.length_drop]; omega
        have htk : (r.take a).length = a := by rw [List.length_take]; omega
        refine ⟨j + 1, r.take a ++ S' ++ r.drop (a + 20), by congr 1; omega, by congr 1; omega, by omega, ?_, ?_, by have h3 := HS3.out; rw [← hb] at h3; exact h3⟩
        · refine HST.out.trans ?_
          have h := ((Stb.refl (lt := ltI) (r.take a)).app HS2.out).app (Stb.refl (lt := ltI) (r.drop (a + 20)))
          rw [seg_split] at h
          exact h
        · intro i hi
          by_cases hij : i < j
          · have h := HBL.out i hij
            have e : ((r.take a ++ S' ++ r.drop (a + 20)).drop (i * 20)).take 20 = (r.drop (i * 20)).take 20 := by
              conv => rhs; rw [← seg_split r a 20]
              rw [List.append_assoc, List.append_assoc]
              exact seg_lows (by rw [htk]; omega)
            rw [e]
            exact h
          · rw [show i * 20 = a by omega, seg_mid htk hl20]
            exact HS1.out
      case measure => simp [intOf]; have := HBB.out; omega
    · have hc := insertion_at g cap gb r (r.take a) (r.drop a) [] a n n wr (by rw [List.append_nil, List.take_append_drop]) (by rw [List.length_take]; omega) (by rw [List.length_drop]; omega) hrl HGr.out HSO.out.row (by omega)
      have HC := hid hc; have HAJ := hid ha
      clear hc hrl ha
      go_wp2_with fail
      refine HC.out.mono ?_
      rintro e w1 ⟨rfl, S', hs1, hs2, hs3⟩
      have hS3 := HSO.out.trans hs3
      have hBlk : Blk 20 (r.take a ++ S' ++ []) := by
        have haj := HAJ.out; have hrl := HRL.out
        have hlS : S'.length = (r.drop a).length := hs2.len.symm
        rw [List.length_drop] at hlS
        have htk : (r.take a).length = a := by rw [List.length_take]; omega
        intro i
        by_cases hij : i < j
        · have h := HBL.out i hij
          have e : ((r.take a ++ S' ++ []).drop (i * 20)).take 20 = (r.drop (i * 20)).take 20 := by
            conv => rhs; rw [← List.take_append_drop a r]
            rw [List.append_assoc]
            exact seg_lows (by rw [htk]; omega)
          rw [e]
          exact h
        · by_cases hie : i = j
          · rw [hie, haj, seg_end htk (by omega)]
            exact hs1
          · rw [seg_none (by simp only [List.length_append, htk, List.length_nil]; omega)]
            exact List.Pairwise.nil
      have hSt : Stb ltI l (r.take a ++ S' ++ []) := by
        refine HST.out.trans ?_
        have h := (Stb.refl (lt := ltI) (r.take a)).app hs2
        rw [List.take_append_drop] at h
        rw [List.append_nil]
        exact h
      generalize r.take a ++ S' ++ [] = r1 at hBlk hSt hS3
      have HBlk := hid hBlk; have HSt := hid hSt; have HS3 := hid hS3
      clear hBlk hSt hS3 hs1 hs2 hs3
      clear HAJ HST HBL HRL HSO HC HGr
      go_wp2_with fail
      go_loopw [6, 7, 8, 9] (fun bv _ _ _ wr2 => ∃ (bs : Nat) (r : List Bk), bv = .int .i64 bs ∧ 20 ≤ bs ∧ bs ≤ 2 * n + 20 ∧ Stb ltI l r ∧ Blk bs r ∧ So bkCells w g cap r wr2) (fun bv _ _ _ _ => n - (intOf bv).toNat)
      case atStart => exact ⟨20, r1, rfl, by omega, by omega, HSt.out, HBlk.out, HS3.out⟩
      case round =>
        obtain ⟨bs, r, rfl, hbs, hbn, hst, hbk, hso⟩ := hrel
        have HST := hid hst; have HBK := hid hbk; have HSO := hid hso
        clear hst hbk hso
        by_cases hbl : bs < n
        · obtain ⟨D, hD⟩ : ∃ D, 2 * bs = D := ⟨_, rfl⟩
          have hDi : 2 * (bs : Int) = (D : Int) := by omega
          have hDb : D ≤ 2097152 * 2 := by omega
          have hDs : bs < D := by omega
          have HD := hid hD
          clear hD
          go_wp2_with fail
          go_loopw [7, 8] (fun av bv wr3 => ∃ (j a b : Nat) (r : List Bk), av = .int .i64 a ∧ bv = .int .i64 b ∧ Hid (a = j * D) ∧ Hid (b = a + D) ∧ a ≤ n ∧ Stb ltI l r ∧ (∀ i, i < j → Sd ltI ((r.drop (i * D)).take D)) ∧ (∀ i, 2 * j ≤ i → Sd ltI ((r.drop (i * bs)).take bs)) ∧ So bkCells w g cap r wr3) (fun av _ _ => n - (intOf av).toNat)
          case atStart => exact ⟨0, 0, D, r, rfl, rfl, hid (by omega), hid (by omega), Nat.zero_le _, HST.out, fun i hi => absurd hi (by omega), fun i _ => HBK.out i, HSO.out⟩
          case round =>
            obtain ⟨j, a, b, r, rfl, rfl, HAJ, HBA, han, hst, hb1, hb2, hso⟩ := hrel
            have HST := hid hst; have HB1 := hid hb1; have HB2 := hid hb2; have HSO := hid hso
            have hrl : r.length = n := by rw [← hst.len, HN.out]
            have HRL := hid hrl
            have HGr := hid (HG.out.fr hso.fr)
            have hba := HBA.out; have hD := HD.out; have haj := HAJ.out
            have hab : j * D = 2 * j * bs := by rw [← hD, ← Nat.mul_assoc, Nat.mul_comm j 2]
            have hsA : Sd ltI ((r.drop a).take bs) := by
              have h := hb2 (2 * j) (Nat.le_refl _)
              rw [← hab, ← haj] at h
              exact h
            have hsB : Sd ltI ((r.drop (a + bs)).take bs) := by
              have h := hb2 (2 * j + 1) (by omega)
              rw [Nat.add_mul, ← hab, ← haj, Nat.one_mul] at h
              exact h
            have hlo : ∀ i, i < j → i * D + D ≤ a := fun i hi => by
              rw [haj, ← Nat.succ_mul]
              exact Nat.mul_le_mul_right D hi
            have hhi : ∀ i, j < i → a + D ≤ i * D := fun i hi => by
              rw [haj, ← Nat.succ_mul]
              exact Nat.mul_le_mul_right D hi
            have hhi2 : ∀ i, 2 * (j + 1) ≤ i → a + D ≤ i * bs := fun i hi => by
              have h := Nat.mul_le_mul_right bs hi
              rw [Nat.mul_add, Nat.add_mul, ← hab, ← haj] at h
              omega
            have HLO := hid hlo; have HHI := hid hhi; have HHI2 := hid hhi2
            have HSA := hid hsA
            clear hst hb1 hb2 hso hlo hhi hhi2 hab
            by_cases hlt : b ≤ n
            · have lA : ((r.drop a).take bs).length = bs := by rw [List.length_take, List.length_drop]; omega
              have lB : ((r.drop (a + bs)).take bs).length = bs := by rw [List.length_take, List.length_drop]; omega
              have hsp := seg_split2 r a bs bs
              have hc := symMerge_any (bs + bs) g cap gb (r.take a) ((r.drop a).take bs) ((r.drop (a + bs)).take bs) (r.drop (a + bs + bs)) wr (by omega) (by omega) (by omega) HGr.out (by rw [hsp]; exact HSO.out.row) (by rw [hsp]; omega) hsA hsB a (a + bs) b n (by rw [List.length_take]; omega) (by omega) (by omega) (by rw [hsp]; exact hrl)
              have HC := hid hc; have HSP := hid hsp; have LA := hid lA; have LB := hid lB
              clear hc hsp hsA hsB hrl lA lB hba hD haj
              obtain ⟨M, hM⟩ : ∃ M, a + bs = M := ⟨_, rfl⟩
              have hMi : (a : Int) + (bs : Int) = (M : Int) := by omega
              rw [hM] at HC
              have hMb : M ≤ 2097152 * 2 := by omega
              have HM := hid hM
              clear hM
              go_wp2_with fail
              refine HC.out.mono ?_
              rintro e w2 ⟨rfl, C, hc1, hc2, hs3⟩
              have HC1 := hid hc1; have HC2 := hid hc2; have HS3 := hid (HSO.out.trans hs3)
              clear hc1 hc2 hs3
              have hbD : b + D ≤ 2097152 * 4 := by omega
              go_wp2_with fail
              go_roundw
              case rel =>
                have hba := HBA.out; have hD := HD.out; have haj := HAJ.out; have hrl := HRL.out; have hM := HM.out
                have htk : (r.take a).length = a := by rw [List.length_take]; omega
                have hlC : C.length = D := by rw [← HC2.out.len, List.length_append]; have := LA.out; have := LB.out; rw [hM] at this; omega
                refine ⟨j + 1, b, b + D, r.take a ++ C ++ r.drop (M + bs), rfl, by first | rfl | go_num, hid (by rw [hba, haj, ← Nat.succ_mul]), hid rfl, hlt, ?_, ?_, ?_, HS3.out⟩
                · refine HST.out.trans ?_
                  have h := ((Stb.refl (lt := ltI) (r.take a)).app HC2.out).app (Stb.refl (lt := ltI) (r.drop (M + bs)))
                  rw [← List.append_assoc, ← hM, HSP.out, hM] at h
                  exact h
                · intro i hi
                  by_cases hij : i < j
                  · have h := HB1.out i hij
                    have e : ((r.take a ++ C ++ r.drop (M + bs)).drop (i * D)).take D = (r.drop (i * D)).take D := by
                      conv => rhs; rw [← HSP.out]
                      rw [List.append_assoc, List.append_assoc, List.append_assoc]
                      exact seg_lows (by rw [htk]; exact HLO.out i hij)
                    rw [e]
                    exact h
                  · rw [show i = j by omega, ← haj, seg_mid htk hlC]
                    exact HC1.out
                · intro i hi
                  have h := HB2.out i (by omega)
                  have e : ((r.take a ++ C ++ r.drop (M + bs)).drop (i * bs)).take bs = (r.drop (i * bs)).take bs := by
                    conv => rhs; rw [← HSP.out]
                    rw [List.append_assoc (r.take a) _ ((r.drop (a + bs)).take bs), ← hM]
                    have hlen := HC2.out.len.symm
                    rw [← hM] at hlen
                    refine seg_high hlen ?_
                    rw [htk, List.length_append, LA.out, LB.out]
                    have := HHI2.out i hi
                    omega
                  rw [e]
                  exact h
              case measure => simp [intOf]; have := HBA.out; omega
            · have HSB := hid hsB
              clear hsA hsB hba hD haj
              obtain ⟨M, hM⟩ : ∃ M, a + bs = M := ⟨_, rfl⟩
              have hMi : (a : Int) + (bs : Int) = (M : Int) := by omega
              have hMb : M ≤ 2097152 * 2 := by omega
              have HM := hid hM
              have hD2 : (bs : Int) * 2 = (D : Int) := by have := HD.out; omega
              clear hM
              go_upto_region 14 with fail
              clear hMi
              by_cases hMn : M < n
              · have hba := HBA.out; have hD := HD.out; have haj := HAJ.out; have hM := HM.out
                have lA : ((r.drop a).take bs).length = bs := by rw [List.length_take, List.length_drop]; omega
                have lB : ((r.drop M).take bs) = r.drop M := List.take_of_length_le (by rw [List.length_drop]; omega)
                have hsp : r.take a ++ (r.drop a).take bs ++ r.drop M ++ [] = r := by
                  rw [List.append_nil, ← hM]
                  exact seg_split r a bs
                have hsB2 := HSB.out
                rw [hM, lB] at hsB2
                have hc := symMerge_any (bs + bs) g cap gb (r.take a) ((r.drop a).take bs) (r.drop M) [] wr (by rw [lA, List.length_drop]; omega) (by omega) (by rw [List.length_drop]; omega) HGr.out (by rw [hsp]; exact HSO.out.row) (by rw [hsp]; omega) HSA.out hsB2 a M n n (by rw [List.length_take]; omega) (by omega) (by rw [List.length_drop]; omega) (by rw [hsp]; exact hrl)
                have HC := hid hc; have HSP := hid hsp; have LA := hid lA
                clear hc hsp hsB2 hrl lA lB hba hD haj hM
                go_wp2_with fail
                refine HC.out.mono ?_
                rintro e w2 ⟨rfl, C, hc1, hc2, hs3⟩
                have HC1 := hid hc1; have HC2 := hid hc2; have HS3 := hid (HSO.out.trans hs3)
                clear hc1 hc2 hs3
                go_wp2_with fail
                go_roundw
                case rel =>
                  have hba := HBA.out; have hD := HD.out; have haj := HAJ.out; have hrl := HRL.out; have hM := HM.out
                  have htk : (r.take a).length = a := by rw [List.length_take]; omega
                  have hlC : C.length = n - a := by rw [← HC2.out.len, List.length_append, LA.out, List.length_drop]; omega
                  refine ⟨D, r.take a ++ C ++ [], by first | rfl | go_num, by omega, by omega, ?_, ?_, HS3.out⟩
                  · refine HST.out.trans ?_
                    have h := ((Stb.refl (lt := ltI) (r.take a)).app HC2.out).app (Stb.refl (lt := ltI) ([] : List Bk))
                    rw [← List.append_assoc, HSP.out] at h
                    exact h
                  · intro i
                    by_cases hij : i < j
                    · have h := HB1.out i hij
                      have e : ((r.take a ++ C ++ []).drop (i * D)).take D = (r.drop (i * D)).take D := by
                        conv => rhs; rw [← HSP.out]
                        rw [List.append_assoc, List.append_assoc, List.append_assoc]
                        exact seg_lows (by rw [htk]; exact HLO.out i hij)
                      rw [e]
                      exact h
                    · by_cases hie : i = j
                      · rw [hie, ← haj, seg_end htk (by omega)]
                        exact HC1.out
                      · rw [seg_none (by simp only [List.length_append, htk, hlC, List.length_nil]; have := HHI.out i (by omega); omega)]
                        exact List.Pairwise.nil
                case measure => simp [intOf]; have := HD.out; omega
              · clear hrl
                go_wp2_with fail
                go_roundw
                case rel =>
                  have hba := HBA.out; have hD := HD.out; have haj := HAJ.out; have hrl := HRL.out; have hM := HM.out
                  refine ⟨D, r, by first | rfl | go_num, by omega, by omega, HST.out, ?_, HSO.out⟩
                  intro i
                  by_cases hij : i < j
                  · exact HB1.out i hij
                  · by_cases hie : i = j
                    · rw [hie, ← haj]
                      have h := HSA.out
                      rw [List.take_of_length_le (by rw [List.length_drop]; omega)] at h ⊢
                      exact h
                    · rw [seg_none (by have := HHI.out i (by omega); omega)]
                      exact List.Pairwise.nil
                case measure => simp [intOf]; have := HD.out; omega
        · go_wp2_with fail
          go_end0
          refine ⟨rfl, r, ?_, HST.out, HSO.out⟩
          have h := HBK.out 0
          rw [Nat.zero_mul, List.drop_zero, List.take_of_length_le (by rw [← HST.out.len, HN.out]; omega)] at h
          exact h
end Go.Proofs.Ytgidgmgpgfonnaa
/- Sets of names: what namesOf and has answer. -/
namespace Go.Proofs.Ytgidgmgpgfonnaa
open Go.RowKit Go.Deep Go.Maps

theorem zero86 (W : World) : (zeroValue 86).run Try.prog W = .ok (.agg #[]) W := by kernel_rfl
/-- Is a name among these? -/
def inL (l : List ByteArray) (s : ByteArray) : Bool := l.any fun b => decide (b = s)
theorem inL_snoc (l : List ByteArray) (s s' : ByteArray) : inL (l ++ [s]) s' = (inL l s' || decide (s = s')) := by simp [inL]
/-- A set of names in memory. -/
structure NmAt (W : World) (b n : Nat) (l : List ByteArray) : Prop where
  ex : ∃ D, MapAt W b n D ∧ ∀ s, lookD D s = if inL l s = true then some (Value.agg #[]) else none
theorem NmAt.below {W W' : World} {b n : Nat} {l : List ByteArray} (h : NmAt W b n l) (hb : Below W.heap.size W W') : NmAt W' b n l := by
  obtain ⟨D, hD, hl⟩ := h.ex
  exact ⟨D, hD.below hb, hl⟩
theorem look_run63 {W : World} {b n : Nat} {l : List ByteArray} (h : NmAt W b n l) (s : ByteArray) (hs : s.size ≤ maxLen) :
    (Instr.lookup 63 (.map (some b)) (.string s) true).run Try.prog W = .ok (.tuple #[.agg #[], .bool (inL l s)]) W := by
  obtain ⟨D, hD, hl⟩ := h.ex
  have h1 := hl s
  obtain ⟨es, clock, hb, F, _, rfl⟩ := hD
  unfold lookD at h1
  rcases fit_look true law9 Try.underlying63 (zero86 W) hb F (key_run s hs) with ⟨hrun, _, hat⟩ | ⟨e0, y, _, _, hrun, hRv, hat, _⟩
  · rw [hat] at h1
    by_cases hm : inL l s = true
    · rw [if_pos hm] at h1; cases h1
    · rw [show inL l s = false by simpa using hm]
      exact hrun
  · have hy : y.1 = .held e0.val := by
      unfold rH at hRv
      rw [← Option.some.inj hRv]
    rw [hat, hy] at h1
    by_cases hm : inL l s = true
    · rw [if_pos hm] at h1
      rw [hm]
      have e : e0.val = .agg #[] := Option.some.inj h1
      rw [e] at hrun
      exact hrun
    · rw [if_neg hm] at h1; cases h1
theorem make_run63 (W : World) (n : Int) : (Instr.makeMap 63 (some (.int .i64 n))).run Try.prog W = .ok (.map (some W.heap.size)) (W.alloc (.map #[] 0)) := by
  simp [Instr.makeMap, run_underlying Try.underlying63, asInt, asIntOf, Result.andThen]
theorem NmAt.put {W : World} {b n : Nat} {l : List ByteArray} (h : NmAt W b n l) (hn : n < maxLen) (s : ByteArray) (hs : s.size ≤ maxLen) :
    ∃ W', (Instr.mapUpdate 63 (.map (some b)) (.string s) (.agg #[])).run Try.prog W = .ok () W' ∧ NmAt W' b (n + 1) (l ++ [s]) ∧ W.grownBy W' (some b) := by
  obtain ⟨D, hD, hl⟩ := h.ex
  obtain ⟨W', h1, h2, h3⟩ := hD.update (val := .agg #[]) law9 Try.underlying63 hn (key_run s hs) rfl
  refine ⟨W', h1, ⟨_, h2, fun s' => ?_⟩, h3⟩
  rw [look_put hD.isMap, hl s', inL_snoc]
  by_cases e : s' = s
  · simp [e]
  · have e' : ¬ s = s' := fun h => e h.symm
    simp [e, e']
set_option maxRecDepth 100000 in
set_option maxHeartbeats 1000000 in
/-- namesOf. -/
theorem names_any (p : Option Addr) (cap : Nat) (ss : List ByteArray) (w : World) (hB : StrsAt w p ss.length ss) (hn : ss.length ≤ 1048576) :
    Calls Try.prog 34 #[.slice p ss.length cap] w fun e w' => e = .returned (.map (some w.heap.size)) ∧ NmAt w' w.heap.size ss.length ss ∧ Below w.heap.size w w' := by
  have hmk := make_run63 w (ss.length : Int)
  have HM := hid (map_made w)
  have HL := hid (alloc_below0 w (.map #[] 0))
  have HB := hid hB
  clear hB
  go_enter Try.func34, Try.ntmps34
  go_wp2_with fail
  clear hmk
  generalize w.alloc (.map #[] 0) = V at HM HL ⊢
  go_loopw [11] (fun iv wr => ∃ i : Nat, i ≤ ss.length ∧ iv = .int .i64 i ∧ NmAt wr w.heap.size i (ss.take i) ∧ Below w.heap.size w wr) (fun iv _ => ss.length - (intOf iv).toNat)
  case atStart => exact ⟨0, Nat.zero_le _, rfl, ⟨_, HM.out, fun s => by simp [look_none, inL]⟩, HL.out⟩
  case round =>
    obtain ⟨i, hi, rfl, htab, hlow⟩ := hrel
    by_cases hlt : i < ss.length
    · obtain ⟨b1, o1, rfl, p0⟩ := (HB.out.below hlow).cells i hlt
      have hfit := HB.out.fits ss[i] (List.getElem_mem hlt)
      have htk : ss.take (i + 1) = ss.take i ++ [ss[i]] := List.take_succ_eq_append_getElem hlt
      obtain ⟨s, hs⟩ : ∃ s, ss[i] = s := ⟨_, rfl⟩
      rw [hs] at p0 hfit htk
      obtain ⟨W', hrun, htab', hgr⟩ := htab.put (by unfold maxLen; omega) s hfit
      have HT' := hid htab'; have HG := hid (map_low hlow hgr); have HTK := hid htk
      clear htab htab' hgr htk hs hlow
      go_wp2_with fail
      refine ⟨⟨i + 1, by omega, rfl, ?_, HG.out⟩, by simp [intOf]; omega⟩
      rw [HTK.out]
      exact HT'.out
    · have he : i = ss.length := by omega
      have ht : ss.take i = ss := List.take_of_length_le (by omega)
      rw [ht, he] at htab
      go_wp2
      go_ret
      exact ⟨rfl, htab, hlow⟩
set_option maxRecDepth 100000 in
set_option maxHeartbeats 1000000 in
/-- has. -/
theorem has_any (b n : Nat) (l : List ByteArray) (s : ByteArray) (w : World) (hN : NmAt w b n l) (hs : s.size ≤ maxLen) :
    Calls Try.prog 35 #[.map (some b), .string s] w fun e w' => e = .returned (.bool (inL l s)) ∧ Below w.heap.size w w' := by
  have hrun := look_run63 hN s hs
  obtain ⟨bv, hbv⟩ : ∃ bv, inL l s = bv := ⟨_, rfl⟩
  rw [hbv] at hrun ⊢
  have HL := hid (alloc_below0 w (.cells #[] 86))
  clear hN hbv
  go_enter Try.func35, Try.ntmps35
  go_wp2_with fail
  go_ret
  exact ⟨rfl, HL.out⟩
end Go.Proofs.Ytgidgmgpgfonnaa
/- Binds under way no two of whose terms share a block; what clone and Restrict answer. -/
namespace Go.Proofs.Ytgidgmgpgfonnaa
open Go.RowKit Go.Deep

/-- Binds under way: a row of its own, the terms' lists elsewhere, each another. -/
structure SepB (B : Nat) (W : World) (v : Value) (ks : List Bk) : Prop where
  row : W.ownsRow B 50 4 v ks.length (bkAll ks)
  gl : GL SepE W (ks.map (·.2)) (fun q => B ≤ q ∧ some q ≠ v.ownBlock)
theorem SepB.nil (B : Nat) (W : World) : SepB B W (.slice none 0 0) [] := ⟨World.ownsRow_nil _ _ _ _, trivial⟩
theorem SepB.below {B : Nat} {W W' : World} {v : Value} {ks : List Bk} (h : SepB B W v ks) (hb : Below W.heap.size W W') : SepB B W' v ks := ⟨owns_below h.row hb, h.gl.keep sepE (fun q _ hlt => hb.block q hlt)⟩
theorem SepB.lt {B : Nat} {W : World} {v : Value} {ks : List Bk} {g : Nat} (h : SepB B W v ks) (hg : v.ownBlock = some g) : g < W.heap.size := by
  obtain ⟨cur, hc⟩ := (owns_cells h.row hg).2
  exact (Array.getElem?_eq_some_iff.1 hc).1
theorem SepB.tm {B : Nat} {W : World} {v : Value} {ks : List Bk} (h : SepB B W v ks) : ∀ k ∈ ks, TmAt W k.2.x k.2.a k.2.c k.2.l := fun k hk => by
  obtain ⟨A, _, hA⟩ := h.gl.mem (List.mem_map_of_mem (f := (·.2)) hk)
  exact SepTm.tm hA
theorem SepB.grow {B : Nat} {W W1 W2 : World} {v v' : Value} {ks : List Bk} {y : Bk} (h : SepB B W v ks) (hW : Below W.heap.size W W1) (hm : SepTm W1 (fun q => W.heap.size ≤ q) y.2.x y.2.a y.2.c y.2.l) (hB : B ≤ W.heap.size)
    (hg : W1.grownBy W2 v.ownBlock) (hat : v'.ownBlock = v.ownBlock ∨ v'.ownBlock = some W1.heap.size) (ho : W2.ownsRow B 50 4 v' (ks ++ [y]).length (bkAll (ks ++ [y]))) : SepB B W2 v' (ks ++ [y]) := by
  refine ⟨ho, ?_⟩
  have hsz := hW.size
  have h1 : GL SepE W2 (ks.map (·.2)) (fun q => (B ≤ q ∧ some q ≠ v.ownBlock) ∧ q < W.heap.size) := by
    refine (h.gl.within sepE).keep sepE (fun q hq hlt => ?_)
    rw [hg.block q (by omega) hq.1.2]
    exact hW.block q hlt
  have h2 : SepTm W2 (fun q => W.heap.size ≤ q ∧ q < W1.heap.size) y.2.x y.2.a y.2.c y.2.l := (SepTm.within hm).keep (fun q hq hlt => hg.block q hlt (fun e => by have := h.lt e.symm; omega))
  have h3 := GL.snoc (E := SepE) (k := y.2) h1 h2 (fun q hq hq2 => by omega)
  rw [List.map_append]
  refine h3.mono fun q hq => ?_
  rcases hq with ⟨⟨hq1, hq2⟩, hq3⟩ | ⟨hq1, hq2⟩
  · refine ⟨hq1, ?_⟩
    rcases hat with e | e
    · rw [e]; exact hq2
    · rw [e]; intro e'; cases e'; omega
  · refine ⟨by omega, ?_⟩
    rcases hat with e | e
    · rw [e]; intro e'; have := h.lt e'.symm; omega
    · rw [e]; intro e'; cases e'; omega
theorem SepB.slice {B : Nat} {W : World} {v : Value} {ks : List Bk} (h : SepB B W v ks) : (v = .slice none 0 0 ∧ ks = []) ∨ ∃ g cap, v = .slice (some ⟨g, 0, none⟩) ks.length cap := by
  rcases h.row.2 with ⟨h1, h2⟩ | ⟨g, cap, cur, h1, _⟩
  · exact .inl ⟨h1, List.eq_nil_of_length_eq_zero h2⟩
  · exact .inr ⟨g, cap, h1⟩
/-- As binds in memory. -/
theorem SepB.binds {B : Nat} {W : World} {ks : List Bk} {P : Option Addr} {c : Nat} (h : SepB B W (.slice P ks.length c) ks) (hf : ∀ k ∈ ks, k.1.size ≤ maxLen) : BindsAt W P ks.length (ks.map bkBn) := by
  have hf' : ∀ x ∈ ks.map bkBn, x.1.size ≤ maxLen := fun x hx => by
    obtain ⟨k, hk, rfl⟩ := List.mem_map.1 hx
    exact hf k hk
  rcases h.slice with ⟨_, rfl⟩ | ⟨g, cap, hv⟩
  · exact ⟨rfl, by simp, fun i hi => absurd hi (by simp), hf'⟩
  · cases hv
    have hc := owns_cap h.row
    refine ⟨by simp, by omega, fun i hi => ?_, hf'⟩
    have hi' : i < ks.length := by simpa using hi
    refine ⟨g, 0, ks[i].2.a, ks[i].2.c, rfl, ?_⟩
    have := row_bd h.row i hi' (h.tm _ (List.getElem_mem hi'))
    simpa using this

theorem Try.size50 : (Try.prog.info? 50).map (·.size) = some 4 := by kernel_rfl
/-- Four cells stored. -/
theorem box50_all {W : World} {B : Nat} {y0 y1 y2 y3 : Value} (h : Box W B 50 #[y0, y1, y2, y3]) (x0 x1 x2 x3 : Value) : Box ((((W.setCell ⟨B, 0, none⟩ x0).setCell ⟨B, 1, none⟩ x1).setCell ⟨B, 2, none⟩ x2).setCell ⟨B, 3, none⟩ x3) B 50 #[x0, x1, x2, x3] := by
  have := block_set (k := 3) (block_set (k := 2) (block_set (k := 1) (block_set (k := 0) h x0) x1) x2) x3
  exact this
theorem sets4_far {W : World} {B q : Nat} (h : q ≠ B) (a b c d : Value) : ((((W.setCell ⟨B, 0, none⟩ a).setCell ⟨B, 1, none⟩ b).setCell ⟨B, 2, none⟩ c).setCell ⟨B, 3, none⟩ d).heap[q]? = W.heap[q]? :=
  (((Below.heap_setCell _ _ _ _ h).trans (Below.heap_setCell _ _ _ _ h)).trans (Below.heap_setCell _ _ _ _ h)).trans (Below.heap_setCell _ _ _ _ h)
theorem sets4_below {n0 : Nat} {w W : World} {B : Nat} (hb : Below n0 w W) (h : n0 ≤ B) (a b c d : Value) : Below n0 w ((((W.setCell ⟨B, 0, none⟩ a).setCell ⟨B, 1, none⟩ b).setCell ⟨B, 2, none⟩ c).setCell ⟨B, 3, none⟩ d) :=
  (((hb.setCell (p := ⟨B, 0, none⟩) h _).setCell (p := ⟨B, 1, none⟩) h _).setCell (p := ⟨B, 2, none⟩) h _).setCell (p := ⟨B, 3, none⟩) h _
set_option maxRecDepth 100000 in
set_option maxHeartbeats 4000000 in
/-- clone of a bind. -/
theorem cloneb_any (vn : ByteArray) (x : ByteArray × Int) (l : Fo) (a : Option Addr) (c : Nat) (w : World) (hT : TmAt w x a c l) :
    Calls Try.prog 36 #[.agg #[.string vn, .string x.1, .int .i64 x.2, .slice a (lenF l) c]] w fun e w' => ∃ a' c', e = .returned (.agg #[.string vn, .string x.1, .int .i64 x.2, .slice a' (lenF l) c']) ∧ SepTm w' (fun q => w.heap.size ≤ q) x a' c' l ∧ Below w.heap.size w w' := by
  obtain ⟨W0, hW0⟩ : ∃ W0, (w.alloc (.cells #[.string vn, .string x.1, .int .i64 x.2, .slice a (lenF l) c] 50)).alloc (.cells #[.string ⟨#[]⟩, .string ⟨#[]⟩, .int .i64 0, .slice none 0 0] 50) = W0 := ⟨_, rfl⟩
  have hb0 : Below w.heap.size w W0 := by rw [← hW0]; exact ((Below.refl _ w).alloc (Nat.le_refl _) _).alloc (by simp) _
  have b1 : Box W0 w.heap.size 50 #[.string vn, .string x.1, .int .i64 x.2, .slice a (lenF l) c] := by rw [← hW0]; exact (Below.heap_alloc _ _ _ (by simp)).trans (World.alloc_heap_new w _)
  have b2 : Box W0 (w.heap.size + 1) 50 #[.string ⟨#[]⟩, .string ⟨#[]⟩, .int .i64 0, .slice none 0 0] := by
    have := World.alloc_heap_new (w.alloc (.cells #[.string vn, .string x.1, .int .i64 x.2, .slice a (lenF l) c] 50)) (.cells #[.string ⟨#[]⟩, .string ⟨#[]⟩, .int .i64 0, .slice none 0 0] 50)
    rw [World.size_alloc] at this
    rw [← hW0]; exact this
  have hsz : W0.heap.size = w.heap.size + 2 := by rw [← hW0]; simp
  have HC := hid fun (W : World) (hW : Below w.heap.size w W) => clone_any x l a c W (hT.below hW)
  have HB0 := hid hb0; have HX := hid b1; have HY := hid b2; have HSZ := hid hsz
  have z0 := b1.c 0; have z1 := b1.c 1; have z2 := b1.c 2; have z3 := b1.c 3
  clear hT b1 b2 hb0 hsz
  go_enter Try.func36, Try.ntmps36
  go_upto_region 1 with fail
  clear hW0
  go_region_with ((first
    | (go_at_call 60; refine Calls.mono (HC.out _ HB0.out.drew) ?_; rintro e w1 ⟨a', c', rfl, hs1, hb1, _⟩; have hb1' : Below W0.heap.size W0 w1 := ((Below.refl _ W0).drew).trans hb1; have HS1 : Hid (SepTm w1 (fun q => w.heap.size + 2 ≤ q) x a' c' l) := hid (hs1.mono (fun q hq => by have := HSZ.out; simp at hq; omega)); have HB1 := hid (HB0.out.trans (hb1'.mono HB0.out.size)); have X1 := HX.out.below hb1'; have Y1 := HY.out.below hb1'; have HY1 := hid Y1; have y0 := X1.c 0; have r0 := Y1.c 0; have r1 := Y1.c 1; have r2 := Y1.c 2; have r3 := Y1.c 3; have g0 := Y1.f 0; have g1 := Y1.f 1; have g2 := Y1.f 2; have g3 := Y1.f 3; clear hs1 hb1 hb1' X1 Y1)
    | fail))
  all_goals
    go_wp2_with fail
    refine bodyPost_ret (results_cell_row rfl _ _ (w.heap.size + 1) 50 #[.string vn, .string x.1, .int .i64 x.2, .slice a' (lenF l) c'] (0, 0) _ rfl (box50_all HY1.out _ _ _ _) Try.underlying50 rfl Try.size50) rfl ?_
    refine ⟨a', c', rfl, ?_, sets4_below HB1.out (by omega) _ _ _ _⟩
    exact (HS1.out.keep (fun q hq _ => sets4_far (by omega) _ _ _ _)).mono (fun q hq => by omega)
set_option maxRecDepth 100000 in
set_option maxHeartbeats 4000000 in
/-- Restrict. -/
theorem restrict_any (p : Option Addr) (cap : Nat) (bs : List Bn) (pn : Option Addr) (cn : Nat) (ns : List ByteArray) (w : World) (hB : BindsAt w p bs.length bs) (hN : StrsAt w pn ns.length ns) (hn : bs.length ≤ 1048575) (hm : ns.length ≤ 1048576) :
    Calls Try.prog 17 #[.slice p bs.length cap, .slice pn ns.length cn] w fun e w' => ∃ v ks, e = .returned v ∧ SepB w.heap.size w' v ks ∧ ks.map bkBn = bs.filter (fun b => inL ns b.1) ∧ Below w.heap.size w w' := by
  have HB := hid hB
  have HNM := hid (names_any pn cn ns w hN hm)
  have hmax : maxLen = 9223372036854775807 := rfl
  clear hB hN
  go_enter Try.func17, Try.ntmps17
  go_wp2_with fail
  refine HNM.out.mono ?_
  rintro e w1 ⟨rfl, hnm, hb1⟩
  have HN1 := hid hnm; have HB1 := hid hb1
  clear hnm hb1 HNM
  go_wp2_with fail
  go_loopw [6, 13] (fun ov iv wr => ∃ (j : Nat) (v : Value) (ks : List Bk), j ≤ bs.length ∧ v = ov ∧ iv = .int .i64 j ∧ SepB w.heap.size wr v ks ∧ NmAt wr w.heap.size ns.length ns ∧ (∀ g, v.ownBlock = some g → w1.heap.size ≤ g) ∧ ks.map bkBn = (bs.take j).filter (fun b => inL ns b.1) ∧ Below w.heap.size w wr ∧ w1.heap.size ≤ wr.heap.size) (fun _ iv _ => bs.length - (intOf iv).toNat)
  case atStart => exact ⟨0, _, [], Nat.zero_le _, rfl, rfl, SepB.nil _ _, HN1.out, fun g hg => by simp [Value.ownBlock] at hg, by simp, HB1.out, Nat.le_refl _⟩
  case round =>
    obtain ⟨j, ov, ks, hj, rfl, rfl, hL, hnm, hown, hks, hlow, hsz1⟩ := hrel
    have HL := hid hL; have HK := hid hks; have HW := hid hlow; have HN := hid hnm; have HO := hid hown
    have hkl : ks.length ≤ j := by
      have := congrArg List.length hks
      rw [List.length_map] at this
      have h2 := List.length_filter_le (fun b : Bn => inL ns b.1) (bs.take j)
      rw [List.length_take] at h2
      omega
    have HZ1 := hid hsz1
    clear hL hks hlow hnm hown hsz1
    by_cases hlt : j < bs.length
    · obtain ⟨b1, o1, a1, c1, rfl, hbd⟩ := (HB.out.below HW.out).cells j hlt
      have hfit := HB.out.fits bs[j] (List.getElem_mem hlt)
      have htk : bs.take (j + 1) = bs.take j ++ [bs[j]] := List.take_succ_eq_append_getElem hlt
      obtain ⟨⟨vn, ⟨x, l⟩⟩, hy⟩ : ∃ y, bs[j] = y := ⟨_, rfl⟩
      rw [hy] at hbd htk hfit
      have HTK := hid htk
      have HBD := hid hbd
      have p0 := hbd.var; have p1 := hbd.name; have p2 := hbd.sym; have p3 := hbd.list
      dsimp only at p0 p1 p2 p3 hfit
      have bx := alloc_below0 wr (.cells #[.string vn, .string x.1, .int .i64 x.2, .slice a1 (lenF l) c1] 50)
      have HBX := hid bx
      have BX : Hid (Box (wr.alloc (.cells #[.string vn, .string x.1, .int .i64 x.2, .slice a1 (lenF l) c1] 50)) wr.heap.size 50 #[.string vn, .string x.1, .int .i64 x.2, .slice a1 (lenF l) c1]) := hid (Box.new wr 50 _)
      have HH := hid (has_any w.heap.size ns.length ns vn _ (HN.out.below bx) hfit)
      have hwz := HW.out.size
      clear hbd hy htk bx
      go_wp2_with fail
      clear p0 p1 p2 p3
      generalize wr.alloc (.cells #[.string vn, .string x.1, .int .i64 x.2, .slice a1 (lenF l) c1] 50) = V at HBX BX HH ⊢
      refine HH.out.mono ?_
      rintro e w2 ⟨rfl, hb2⟩
      have HB2 := hid (HBX.out.trans (hb2.mono HBX.out.size))
      have BX2 := BX.out.below hb2
      have q0 := BX2.c 0; have q1 := BX2.c 1; have q2 := BX2.c 2; have q3 := BX2.c 3
      clear hb2 BX2 BX HBX HH
      by_cases hin : inL ns vn = true
      · rw [hin]
        have HIN := hid hin
        clear hin
        have HC := hid (cloneb_any vn x l a1 c1 w2 (HBD.out.tm.below HB2.out))
        go_wp2_with fail
        refine HC.out.mono ?_
        rintro e w3 ⟨a', c', rfl, hs3, hb3⟩
        have HS3 : Hid (SepTm w3 (fun q => wr.heap.size ≤ q) x a' c' l) := hid (hs3.mono (fun q hq => by have := HB2.out.size; omega))
        have HB3 := hid (HB2.out.trans (hb3.mono HB2.out.size))
        have by3 := alloc_below0 w3 (.cells #[.string vn, .string x.1, .int .i64 x.2, .slice a' (lenF l) c'] 50)
        have HB4 := hid (HB3.out.trans (by3.mono HB3.out.size))
        have hz4 : w3.heap.size + 1 = (w3.alloc (.cells #[.string vn, .string x.1, .int .i64 x.2, .slice a' (lenF l) c'] 50)).heap.size := by simp
        have HZ4 := hid hz4
        clear hs3 hb3 q0 q1 q2 q3 HC by3 hz4
        go_wp2_with (at_builtin; refine wpList_append_bk rfl _ _ rfl w.heap.size ov ks rfl (owns_below HL.out.row HB4.out) w3.heap.size (vn, ⟨x, l, a', c'⟩) rfl (World.news_of_block (heap_alloc_new w3 _)) (by omega) (by have := HB4.out.size; omega) ?_; intro g5 cap5 w5 hown5 hgrow5 hat5; have HO5 := hid hown5; have HG5 := hid hgrow5; have HA5 := hid hat5; clear hown5 hgrow5 hat5)
        go_roundw
        case rel =>
          have hgr : SepB w.heap.size w5 (.slice (some ⟨g5, 0, none⟩) (ks.length + 1) cap5) (ks ++ [(vn, ⟨x, l, a', c'⟩)]) := HL.out.grow HB4.out (HS3.out.below (alloc_below0 w3 _)) hwz HG5.out (HA5.out.imp (fun e => e) (fun e => by rw [e]; rfl)) HO5.out
          have hnm5 : NmAt w5 w.heap.size ns.length ns := by
            obtain ⟨D, hD, hl⟩ := (HN.out.below HB4.out).ex
            exact ⟨D, hD.kept HG5.out (fun e => by have := HO.out _ e.symm; have := HB1.out.size; obtain ⟨es, clock, hb, _⟩ := HN1.out.ex.choose_spec.1; have := (Array.getElem?_eq_some_iff.1 hb).1; omega), hl⟩
          refine ⟨j + 1, _, _, by omega, rfl, by go_num, hgr, hnm5, fun g hg => ?_, by rw [HTK.out, List.filter_append, ← HK.out]; simp [bkBn, Kv.tn, HIN.out], HW.out.trans ((HB4.out.mono hwz).grown HG5.out (by rw [← HZ4.out]; have := HB3.out.size; omega) (fun k e => (owns_cells HL.out.row e).1)), ?_⟩
          · have hg' : g5 = g := Option.some.inj hg
            subst hg'
            rcases HA5.out with e | e
            · exact HO.out _ e.symm
            · rw [e, ← HZ4.out]; have := HB3.out.size; have := HZ1.out; omega
          · have := HG5.out.size; rw [← HZ4.out] at this; have := HB3.out.size; have := HZ1.out; omega
        case measure => simp [intOf]; omega
      · have hin' : inL ns vn = false := by simpa using hin
        rw [hin']
        have HIN := hid hin
        clear hin
        go_wp2_with fail
        go_roundw
        case rel => exact ⟨j + 1, _, ks, by omega, rfl, by go_num, HL.out.below HB2.out, HN.out.below HB2.out, HO.out, by rw [HTK.out, List.filter_append, ← HK.out]; simp [HIN.out], HW.out.trans (HB2.out.mono hwz), Nat.le_trans HZ1.out HB2.out.size⟩
        case measure => simp [intOf]; omega
    · have hjl : j = bs.length := by omega
      subst hjl
      have hks' : ks.map bkBn = bs.filter (fun b => inL ns b.1) := by have := HK.out; rwa [List.take_of_length_le (Nat.le_refl _)] at this
      have HK2 := hid hks'
      clear hks'
      go_wp2
      go_ret
      exact ⟨ov, ks, rfl, HL.out, HK2.out, HW.out⟩
end Go.Proofs.Ytgidgmgpgfonnaa
/- The library's stable sort of binds, and binds under way. -/
namespace Go.Proofs.Ytgidgmgpgfonnaa
open Go.RowKit Go.Deep

set_option maxRecDepth 100000 in
set_option maxHeartbeats 2000000 in
theorem ins_none (a : Option Addr) (c : Nat) (cmp : Value) (w : World) :
    Calls Try.prog 81 #[.slice a 0 c, .int .i64 0, .int .i64 0, cmp] w fun e w' => e = .returned (.tuple #[]) ∧ w' = w := by
  go_enter Try.func81, Try.ntmps81
  go_wp2_with fail
  go_loopw [8] (fun iv wr => iv = .int .i64 1 ∧ wr = w) (fun _ _ => 0)
  case atStart => exact ⟨rfl, rfl⟩
  case round =>
    obtain ⟨rfl, rfl⟩ := hrel
    go_wp2
    go_end0
    exact ⟨rfl, rfl⟩
set_option maxRecDepth 100000 in
set_option maxHeartbeats 2000000 in
theorem stable_none (a : Option Addr) (c : Nat) (cmp : Value) (w : World) :
    Calls Try.prog 63 #[.slice a 0 c, .int .i64 0, cmp] w fun e w' => e = .returned (.tuple #[]) ∧ w' = w := by
  go_enter Try.func63, Try.ntmps63
  go_wp2_with fail
  go_loopw [7, 8] (fun av ov wr => av = .int .i64 0 ∧ ov = .int .i64 20 ∧ wr = w) (fun _ _ _ => 0)
  case atStart => exact ⟨rfl, rfl, rfl⟩
  case round =>
    obtain ⟨rfl, rfl, rfl⟩ := hrel
    go_wp2_with fail
    refine (ins_none a c cmp _).mono ?_
    rintro e w1 ⟨rfl, rfl⟩
    go_wp2_with fail
    go_loopw [6] (fun ov wr => ov = .int .i64 20 ∧ wr = w1) (fun _ _ => 0)
    case atStart => exact ⟨rfl, rfl⟩
    case round =>
      obtain ⟨rfl, rfl⟩ := hrel
      go_wp2
      go_end0
      exact ⟨rfl, rfl⟩
set_option maxRecDepth 100000 in
theorem sort_none (a : Option Addr) (c : Nat) (cmp : Value) (w : World) :
    Calls Try.prog 43 #[.slice a 0 c, cmp] w fun e w' => e = .returned (.tuple #[]) ∧ w' = w := by
  go_enter Try.func43, Try.ntmps43
  go_wp2_with fail
  refine (stable_none a c cmp w).mono ?_
  rintro e w1 ⟨rfl, rfl⟩
  go_wp2
  go_end0
  exact ⟨rfl, rfl⟩
set_option maxRecDepth 100000 in
theorem sort_some (g cap gb : Nat) (l : List Bk) (w : World) (hg : Gb w g gb) (hR : Rw bkCells w g cap l) (hn : l.length ≤ 2097152) :
    Calls Try.prog 43 #[.slice (some ⟨g, 0, none⟩) l.length cap, cmpV gb] w fun e w' => e = .returned (.tuple #[]) ∧ ∃ R, Sd ltI R ∧ Stb ltI l R ∧ So bkCells w g cap R w' := by
  have HC := hid (stable_any g cap gb l w hg hR hn)
  clear hg hR
  go_enter Try.func43, Try.ntmps43
  go_wp2_with fail
  refine HC.out.mono ?_
  rintro e w1 ⟨rfl, h⟩
  have H := hid h
  clear h
  go_wp2
  go_end0
  exact ⟨rfl, H.out⟩
theorem SepB.rw {B : Nat} {W : World} {ks : List Bk} {g cap : Nat} (h : SepB B W (.slice (some ⟨g, 0, none⟩) ks.length cap) ks) : Rw bkCells W g cap ks := by
  rcases h.row.2 with ⟨hv, _⟩ | ⟨g', cap', cur, hv, _, hc, hn, hm, hs, ht⟩
  · cases hv
  · cases hv
    exact ⟨⟨cur, hc, hs, ht⟩, hn, hm⟩
/-- Sorted: the row anew, the terms where they lay. -/
theorem SepB.sorted {B : Nat} {w W : World} {ks R : List Bk} {g cap : Nat} (h : SepB B w (.slice (some ⟨g, 0, none⟩) ks.length cap) ks) (hp : ks.Perm R) (hs : So bkCells w g cap R W) : SepB B W (.slice (some ⟨g, 0, none⟩) R.length cap) R := by
  obtain ⟨⟨cur, h1, h2, h3⟩, h4, h5⟩ := hs.row
  refine ⟨⟨bkAll_len R, .inr ⟨g, cap, cur, rfl, (owns_cells h.row rfl).1, h1, h4, h5, h2, h3⟩⟩, ?_⟩
  have hgl := h.gl.perm (hp.map (·.2))
  exact (hgl.keep sepE (fun q hq hlt => hs.fr.same q hlt (fun e => hq.2 (by rw [e]; rfl)))).mono (fun q hq => hq)
/-- SortStableFunc of binds under way. -/
theorem sort_any (B : Nat) (v : Value) (ks : List Bk) (w : World) (hS : SepB B w v ks) (hn : ks.length ≤ 2097152) :
    Calls Try.prog 43 #[v, .func (.func 44) #[] #[]] w fun e w' => e = .returned (.tuple #[]) ∧ ∃ R, Sd ltI R ∧ Stb ltI ks R ∧ SepB B w' v R ∧ Fr (fun q => B ≤ q) w w' := by
  rcases hS.slice with ⟨rfl, rfl⟩ | ⟨g, cap, rfl⟩
  · refine (sort_none none 0 _ w).mono ?_
    rintro e w1 ⟨rfl, rfl⟩
    exact ⟨rfl, [], List.Pairwise.nil, Stb.refl _, hS, Fr.refl _ _⟩
  · refine (sort_some g cap 0 ks w ⟨rfl, rfl, rfl⟩ hS.rw hn).mono ?_
    rintro e w1 ⟨rfl, R, h1, h2, h3⟩
    have h4 := hS.sorted h2.1 h3
    rw [← h2.1.length_eq] at h4
    exact ⟨rfl, R, h1, h2, h4, h3.fr.mono (fun q hq => by rw [hq]; exact (owns_cells hS.row rfl).1)⟩
end Go.Proofs.Ytgidgmgpgfonnaa
/- The box of what a statement of layer 7 is asked about. -/
namespace Go.Proofs.Ytgidgmgpgfonnaa
open Go.RowKit Go.Deep

/-- What was handed in, and its box. -/
structure InS (w : World) (cs : Array Value) (W : World) : Prop where
  low : Below w.heap.size w W
  box : Box W w.heap.size 30 cs
theorem InS.below {w W W' : World} {cs : Array Value} (h : InS w cs W) (hb : Below W.heap.size W W') : InS w cs W' := ⟨h.low.trans (hb.mono h.low.size), h.box.below hb⟩
theorem InS.new (w : World) (cs : Array Value) : InS w cs (w.alloc (.cells cs 30)) := ⟨(Below.refl _ w).alloc (Nat.le_refl _) _, Box.new w 30 cs⟩
end Go.Proofs.Ytgidgmgpgfonnaa
/- The walk of SubstApplies. -/
namespace Go.Proofs.Ytgidgmgpgfonnaa
open Go.RowKit Go.Deep

def zeroN : Tn := ((⟨#[]⟩, 0), .nil)
theorem ApplyEnd.form2 {sg : List Sym} {lk : ByteArray → Option Tn} {x : ByteArray × Int} {l : Fo} {w : World} {e : Ending} {w' : World} (h : ApplyEnd sg lk x l w e w') : ∃ (k : Kv) (er : Int), e = .returned (.tuple #[.agg #[.string k.x.1, .int .i64 k.x.2, .slice k.a (lenF k.l) k.c], .int .i64 er]) ∧ Below w.heap.size w w' ∧ LoosE w' (fun q => w.heap.size ≤ q) k ∧
    ((leftN lk x l 400 < 0 ∧ k.tn = zeroN ∧ er = 73) ∨ (0 ≤ leftN lk x l 400 ∧ er = 0 ∧ CanR sg (putN lk x l) k.tn)) := by
  rcases h with ⟨hb, ⟨h1, rfl⟩ | ⟨h1, k, rfl, h2, h3⟩⟩
  · exact ⟨⟨(noB, 0), .nil, none, 0⟩, 73, rfl, hb, loosE_const _ _ 0, .inl ⟨h1, rfl, rfl⟩⟩
  · exact ⟨k, 0, rfl, hb, h3, .inr ⟨h1, rfl, h2⟩⟩
theorem RApplyEnd.form2 {sg : List Sym} {bs : List Bn} {x : ByteArray × Int} {l : Fo} {w : World} {e : Ending} {w' : World} (h : RApplyEnd sg bs x l w e w') : ∃ (r : Tn) (a' : Option Addr) (c' : Nat) (er : Int), e = .returned (.tuple #[.agg #[.string r.1.1, .int .i64 r.1.2, .slice a' (lenF r.2) c'], .int .i64 er]) ∧ Below w.heap.size w w' ∧ TmAt w' r.1 a' c' r.2 ∧
    ((growN bs x l 400 < 0 ∧ r = zeroN ∧ er = 73) ∨ (0 ≤ growN bs x l 400 ∧ er = 0 ∧ r = canonT (sgOf sg) (pinN bs x l))) := by
  rcases h with ⟨hb, ⟨h1, rfl⟩ | ⟨h1, r, a', c', h2, rfl, h3⟩⟩
  · exact ⟨zeroN, none, 0, 73, rfl, hb, ⟨⟨by decide, by decide, by decide, by decide⟩, .inl rfl⟩, .inl ⟨h1, rfl, rfl⟩⟩
  · exact ⟨r, a', c', 0, rfl, hb, h3.tm, .inr ⟨h1, rfl, h2⟩⟩
/-- The program's Apply and the document's say the same. -/
theorem apply_same {sg : List Sym} {bs : List Bn} {x : ByteArray × Int} {l : Fo} {t r : Tn} {e f : Int} (hs : SubOk sg bs) (hr : rightB sg (x, l) = true) (h : (leftN (lkB bs) x l 400 < 0 ∧ t = zeroN ∧ e = 73) ∨ (0 ≤ leftN (lkB bs) x l 400 ∧ e = 0 ∧ CanR sg (putN (lkB bs) x l) t)) (k : (growN bs x l 400 < 0 ∧ r = zeroN ∧ f = 73) ∨ (0 ≤ growN bs x l 400 ∧ f = 0 ∧ r = canonT (sgOf sg) (pinN bs x l))) : t = r ∧ e = f := by
  obtain ⟨hok, hrt⟩ := right_facts hr
  have hfa := fits_alike hs.nodup x l hrt 400
  rcases h with ⟨h1, rfl, rfl⟩ | ⟨h1, rfl, h2⟩
  · rcases k with ⟨k1, rfl, rfl⟩ | ⟨k1, rfl, k2⟩
    · exact ⟨rfl, rfl⟩
    · exact absurd (hfa.2 k1) (by omega)
  · rcases k with ⟨k1, rfl, rfl⟩ | ⟨k1, rfl, k2⟩
    · exact absurd (hfa.1 h1) (by omega)
    · have e1 := putN_pin hs.nodup x l hrt
      rw [e1] at h2
      exact ⟨(h2.2 hok (pinN_right hs.rights x l hrt)).trans k2.symm, rfl⟩
set_option maxRecDepth 100000 in
set_option maxHeartbeats 8000000 in
theorem substApplies_walk (q : Sm) (w : World) (hq : SmAt w q) (hz : SmSz q) : Calls Try.prog 3 #[.agg q.cells] w fun e w' => e = .returned (.bool true) ∧ Below w.heap.size w w' := by
  obtain ⟨S, n, cap, sg, pa, ca, ls, pb, cb, bs, ⟨x, l⟩, a, c, pn, cn, ns, f⟩ := q
  have hz1 := hz.all
  have HQ := hid hq
  dsimp only at hz1
  have hln := totB_len ls
  have hnd : ∀ b ∈ ls, nodesF b.2.2 ≤ 1048576 := fun b hb => by have := totB_mem hb; omega
  have I0 : Hid (InS w (Sm.cells ⟨S, n, cap, sg, pa, ca, ls, pb, cb, bs, (x, l), a, c, pn, cn, ns, f⟩) (w.alloc (.cells (Sm.cells ⟨S, n, cap, sg, pa, ca, ls, pb, cb, bs, (x, l), a, c, pn, cn, ns, f⟩) 30))) := hid (InS.new w _)
  have HSG := hid fun (W : World) (hW : Below w.heap.size w W) => (HQ.out.below hW).sig
  have HLS := hid fun (W : World) (hW : Below w.heap.size w W) => (HQ.out.below hW).ls
  have HTM := hid fun (W : World) (hW : Below w.heap.size w W) => (HQ.out.below hW).tm
  dsimp only at HSG HLS HTM
  unfold Sm.cells at I0 ⊢
  dsimp only at I0 ⊢
  have hl1 : ls.length ≤ 1048575 := by omega
  have HZ := hid hnd
  clear hz hq hnd hz1 hln HQ
  go_enter Try.func3, Try.ntmps3
  go_wp2_with fail
  refine (shead_any _).mono ?_
  rintro e w1 ⟨rfl, hb1⟩
  have I1 := hid (I0.out.below hb1)
  clear I0 hb1
  have i1 := I1.out.box.c 1
  go_wp2_with fail
  refine (lentb_any pa ca ls w1 (HLS.out w1 I1.out.low) hl1).mono ?_
  rintro e w2 ⟨g2, cap2, rfl, hL2, _, hb2⟩
  have I2 := hid (I1.out.below hb2)
  have L2 := hid hL2
  clear I1 hb2 hL2 i1
  have i3 := I2.out.box.c 3; have i4 := I2.out.box.c 4; have i5 := I2.out.box.c 5
  go_wp2_with fail
  refine (lent_any x l a c w2 (HTM.out w2 I2.out.low)).mono ?_
  rintro e w3 ⟨a3, c3, rfl, ho3, hb3⟩
  have bx := alloc_below0 w3 (.cells #[.string x.1, .int .i64 x.2, .slice a3 (lenF l) c3] 27)
  have I3 := hid ((I2.out.below hb3).below bx)
  have L3 := hid ((L2.out.below hb3).below bx)
  have T3 := hid (ho3.below bx)
  have X3 : Hid (XBox (w3.alloc (.cells #[.string x.1, .int .i64 x.2, .slice a3 (lenF l) c3] 27)) w3.heap.size x (.slice a3 (lenF l) c3)) := hid (World.alloc_heap_new w3 _)
  clear I2 L2 hb3 ho3 i3 i4 i5 bx
  have i0 := I3.out.box.c 0
  have x0 := X3.out.c0; have x1 := X3.out.c1; have x2 := X3.out.c2
  go_wp2_with fail
  clear i0 x0 x1 x2
  generalize w3.alloc (.cells #[.string x.1, .int .i64 x.2, .slice a3 (lenF l) c3] 27) = W3 at I3 L3 T3 X3 ⊢
  generalize w3.heap.size = bt at X3 ⊢
  refine (papply_any S n cap sg (some ⟨g2, 0, none⟩) cap2 ls x l a3 c3 W3 (HSG.out W3 I3.out.low) L3.out.binds (by omega) T3.out.tm).mono ?_
  intro e w4 hend
  obtain ⟨k, er, rfl, hb4, hE4, hr4⟩ := hend.form2
  have bx := alloc_below0 w4 (.cells #[.string k.x.1, .int .i64 k.x.2, .slice k.a (lenF k.l) k.c] 27)
  have B4 := hid (hb4.trans (bx.mono hb4.size))
  have X4 : Hid (XBox (w4.alloc (.cells #[.string k.x.1, .int .i64 k.x.2, .slice k.a (lenF k.l) k.c] 27)) w4.heap.size k.x (.slice k.a (lenF k.l) k.c)) := hid (World.alloc_heap_new w4 _)
  have C4 : Hid (SepTm (w4.alloc (.cells #[.string k.x.1, .int .i64 k.x.2, .slice k.a (lenF k.l) k.c] 27)) (fun q => W3.heap.size ≤ q ∧ q < w4.heap.size) k.x k.a k.c k.l) := hid (SepTm.keep (fun q _ hq => Below.heap_alloc _ _ _ hq) (SepTm.within hE4.1))
  have HR4 := hid hr4
  clear hb4 hE4 hr4 hend bx
  have i1 := (I3.out.below B4.out).box.c 1
  go_wp2_with fail
  clear i1
  generalize w4.alloc (.cells #[.string k.x.1, .int .i64 k.x.2, .slice k.a (lenF k.l) k.c] 27) = W4 at B4 X4 C4 ⊢
  generalize w4.heap.size = by4 at X4 C4 ⊢
  refine (keptb_any g2 cap2 pa ca ls W4 (L3.out.below B4.out) (HLS.out W4 (I3.out.below B4.out).low) (by omega)).mono ?_
  rintro e w5 ⟨rfl, hb5⟩
  have B5 := hid hb5
  have D5 := hid (B4.out.trans (hb5.mono B4.out.size))
  clear hb5
  have x0 := (X3.out.below D5.out).c0; have x1 := (X3.out.below D5.out).c1; have x2 := (X3.out.below D5.out).c2
  have i3 := (I3.out.below D5.out).box.c 3; have i4 := (I3.out.below D5.out).box.c 4; have i5 := (I3.out.below D5.out).box.c 5
  go_wp2_with fail
  refine (kept_any _ x l a3 a c3 c w5 (T3.out.below D5.out) (HTM.out w5 (I3.out.below D5.out).low)).mono ?_
  rintro e w6 ⟨rfl, hb6⟩
  have B6 := hid (B5.out.trans (hb6.mono B5.out.size))
  have D6 := hid (D5.out.trans (hb6.mono D5.out.size))
  clear hb6 x0 x1 x2 i3 i4 i5 B5 D5
  have i0 := (I3.out.below D6.out).box.c 0; have i3 := (I3.out.below D6.out).box.c 3; have i4 := (I3.out.below D6.out).box.c 4; have i5 := (I3.out.below D6.out).box.c 5
  go_wp2_with fail
  refine (rright_any S n cap sg (x, l) a c w6 (HSG.out w6 (I3.out.below D6.out).low) (HTM.out w6 (I3.out.below D6.out).low)).mono ?_
  rintro e w7 ⟨rfl, hb7⟩
  have B7 := hid (B6.out.trans (hb7.mono B6.out.size))
  have D7 := hid (D6.out.trans (hb7.mono D6.out.size))
  clear hb7 i0 i3 i4 i5 B6 D6
  cases hrt : rightB sg (x, l)
  · go_wp2
    go_ret
    exact ⟨rfl, (I3.out.below D7.out).low⟩
  have HRT := hid hrt
  clear hrt
  have i0 := (I3.out.below D7.out).box.c 0; have i1 := (I3.out.below D7.out).box.c 1
  go_wp2_with fail
  refine (ris_any S n cap sg pa ca ls w7 (HSG.out w7 (I3.out.below D7.out).low) (HLS.out w7 (I3.out.below D7.out).low) (by omega) HZ.out).mono ?_
  rintro e w8 ⟨rfl, hb8⟩
  have B8 := hid (B7.out.trans (hb8.mono B7.out.size))
  have D8 := hid (D7.out.trans (hb8.mono D7.out.size))
  clear hb8 i0 i1 B7 D7
  by_cases his : (chkB sg ls none 0).1 = 0
  · rw [decide_eq_true his]
    have HOK := hid (chk_ok ls none 0 his).1
    clear his
    have i0 := (I3.out.below D8.out).box.c 0; have i1 := (I3.out.below D8.out).box.c 1
    have i3 := (I3.out.below D8.out).box.c 3; have i4 := (I3.out.below D8.out).box.c 4; have i5 := (I3.out.below D8.out).box.c 5
    go_wp2_with fail
    refine (rapply_any S n cap sg pa ca ls x l a c w8 (HSG.out w8 (I3.out.below D8.out).low) (HLS.out w8 (I3.out.below D8.out).low) (by omega) HZ.out (HTM.out w8 (I3.out.below D8.out).low)).mono ?_
    intro e w9 hend
    obtain ⟨r, a9, c9, fr, rfl, hb9, hT9, hr9⟩ := hend.form2
    obtain ⟨hkr, rfl⟩ := apply_same HOK.out HRT.out HR4.out hr9
    have bx := alloc_below0 w9 (.cells #[.string r.1.1, .int .i64 r.1.2, .slice a9 (lenF r.2) c9] 27)
    have B9 := hid (B8.out.trans ((hb9.trans (bx.mono hb9.size)).mono B8.out.size))
    have D9 := hid (D8.out.trans ((hb9.trans (bx.mono hb9.size)).mono D8.out.size))
    have T9 := hid (hT9.below bx)
    have X9 : Hid (XBox (w9.alloc (.cells #[.string r.1.1, .int .i64 r.1.2, .slice a9 (lenF r.2) c9] 27)) w9.heap.size r.1 (.slice a9 (lenF r.2) c9)) := hid (World.alloc_heap_new w9 _)
    have HKR := hid hkr
    clear hkr hr9 hend hb9 hT9 bx i0 i1 i3 i4 i5 B8 D8 HR4
    have y0 := (X4.out.below B9.out).c0; have y1 := (X4.out.below B9.out).c1; have y2 := (X4.out.below B9.out).c2
    have z0 := X9.out.c0; have z1 := X9.out.c1; have z2 := X9.out.c2
    go_wp2_with fail
    clear y0 y1 y2 z0 z1 z2
    generalize w9.alloc (.cells #[.string r.1.1, .int .i64 r.1.2, .slice a9 (lenF r.2) c9] 27) = W9 at B9 D9 T9 X9 ⊢
    refine (rexact_any k.tn r k.a a9 k.c c9 W9 (SepTm.tm (C4.out.below B9.out)) T9.out).mono ?_
    rintro e w10 ⟨he, hb10⟩
    have he' : e = .returned (.bool true) := by rw [he, HKR.out, exN_self]
    subst he'
    have B10 := hid (B9.out.trans (hb10.mono B9.out.size))
    have D10 := hid (D9.out.trans (hb10.mono D9.out.size))
    clear he hb10 B9 D9 T9 X9
    have y0 := (X4.out.below B10.out).c0; have y1 := (X4.out.below B10.out).c1; have y2 := (X4.out.below B10.out).c2
    go_wp2_with fail
    refine (spoil_any _ k.x k.l k.a k.c w10 (C4.out.below B10.out)).mono ?_
    rintro e w11 ⟨⟨v, rfl⟩, hf⟩
    have D11 : Hid (Below W3.heap.size W3 w11) := hid (D10.out.trans (hf.below (fun _ h => h.1) D10.out.size))
    clear hf y0 y1 y2 B10 D10
    have i1 := (I3.out.below D11.out).box.c 1
    go_wp2_with fail
    refine (keptb_any g2 cap2 pa ca ls w11 (L3.out.below D11.out) (HLS.out w11 (I3.out.below D11.out).low) (by omega)).mono ?_
    rintro e w12 ⟨rfl, hb12⟩
    have I12 := hid ((I3.out.below D11.out).below hb12)
    clear hb12 i1
    go_wp2
    go_ret
    exact ⟨rfl, I12.out.low⟩
  · rw [decide_eq_false his]
    clear his
    go_wp2
    go_ret
    exact ⟨rfl, (I3.out.below D8.out).low⟩
end Go.Proofs.Ytgidgmgpgfonnaa
/- What Compose answers. -/
namespace Go.Proofs.Ytgidgmgpgfonnaa
open Go.RowKit Go.Deep

/-- The binds of the first list, with what became of their terms; those that stand for themselves are left out. -/
def comp1 (as' : List Bn) (rs : List Kv) : List Bk := ((as'.zip rs).filter (fun p => !(p.2.x.1.toList == p.1.1.toList))).map (fun p => (p.1.1, p.2))
theorem comp1_snoc {as' : List Bn} {rs : List Kv} (hl : as'.length = rs.length) (b : Bn) (r : Kv) : comp1 (as' ++ [b]) (rs ++ [r]) = comp1 as' rs ++ if (r.x.1.toList == b.1.toList) = true then [] else [(b.1, r)] := by
  unfold comp1
  rw [List.zip_append hl, List.filter_append, List.map_append]
  congr 1
  by_cases h : (r.x.1.toList == b.1.toList) = true
  · simp [h]
  · simp [h]
theorem comp1_len (as' : List Bn) (rs : List Kv) : (comp1 as' rs).length ≤ as'.length := by
  unfold comp1
  rw [List.length_map]
  refine Nat.le_trans (List.length_filter_le _ _) ?_
  rw [List.length_zip]
  omega
/-- What Compose leaves. -/
def CompEnd (sg : List Sym) (as' bs : List Bn) (w : World) (e : Ending) (w' : World) : Prop := Below w.heap.size w w' ∧
  ((e = .returned (.tuple #[.slice none 0 0, .int .i64 73]) ∧ ∃ b ∈ as', leftN (lkB bs) b.2.1 b.2.2 400 < 0) ∨
   ((∀ b ∈ as', 0 ≤ leftN (lkB bs) b.2.1 b.2.2 400) ∧ ∃ (v : Value) (ks ms R : List Bk) (rs : List Kv), e = .returned (.tuple #[v, .int .i64 0]) ∧ as'.length = rs.length ∧ (∀ i (h : i < as'.length) (h' : i < rs.length), CanR sg (putN (lkB bs) as'[i].2.1 as'[i].2.2) rs[i].tn) ∧ ks = comp1 as' rs ∧ ms.map bkBn = bs.filter (fun b => (lkB as' b.1).isNone) ∧ Sd ltI R ∧ Stb ltI (ks ++ ms) R ∧ SepB w.heap.size w' v R))
theorem SepB.base {B B' : Nat} {W : World} {v : Value} {ks : List Bk} (h : SepB B W v ks) (hB : B' ≤ B) : SepB B' W v ks := ⟨owns_base h.row hB, h.gl.mono (fun q hq => ⟨by omega, hq.2⟩)⟩
set_option maxRecDepth 100000 in
set_option maxHeartbeats 8000000 in
theorem pcompose_any (S : Option Addr) (n cap : Nat) (sg : List Sym) (pa : Option Addr) (ca : Nat) (as' : List Bn) (pb : Option Addr) (cb : Nat) (bs : List Bn) (w : World) (hS : SigAt w S n sg) (hA : BindsAt w pa as'.length as') (hB : BindsAt w pb bs.length bs) (hna : as'.length ≤ 1000000) (hnb : bs.length ≤ 1000000) (hsum : as'.length + bs.length ≤ 1048576) :
    Calls Try.prog 23 #[.slice S n cap, .slice pa as'.length ca, .slice pb bs.length cb] w (CompEnd sg as' bs w) := by
  have HTA := hid fun (W : World) (hW : Below w.heap.size w W) => table_any pa ca as' W (hA.below hW) (by omega)
  have HTB := hid fun (W : World) (hW : Below w.heap.size w W) => table_any pb cb bs W (hB.below hW) (by omega)
  have HA := hid hA; have HB := hid hB; have HS := hid hS
  clear hS hA hB
  go_enter Try.func23, Try.ntmps23
  go_wp2_with fail
  refine (HTA.out w (Below.refl _ _)).mono ?_
  rintro e w1 ⟨rfl, ht1, hb1⟩
  have T1 := hid ht1; have B1 := hid hb1
  clear ht1 hb1 HTA
  go_wp2_with fail
  refine (HTB.out w1 B1.out).mono ?_
  rintro e w2 ⟨rfl, ht2, hb2⟩
  have T2 := hid ht2; have T1' := hid (T1.out.below hb2); have B2 := hid (B1.out.trans (hb2.mono B1.out.size))
  generalize w1.heap.size = tb at T2 ⊢
  clear ht2 hb2 HTB T1 B1
  go_wp2_with fail
  have HA2 := hid (HA.out.below B2.out); have HB2 := hid (HB.out.below B2.out); have HS2 := hid (HS.out.below B2.out)
  have HFA := hid HA.out.fits; have HFB := hid HB.out.fits
  clear HA HB HS
  go_loopw [10, 12, 13, 14, 25] (fun ov _ _ _ iv wr => ∃ (j : Nat) (v : Value) (rs : List Kv), j ≤ as'.length ∧ v = ov ∧ iv = .int .i64 j ∧ rs.length = j ∧ SepB w2.heap.size wr v (comp1 (as'.take j) rs) ∧ (∀ b ∈ as'.take j, 0 ≤ leftN (lkB bs) b.2.1 b.2.2 400) ∧ (∀ i (h : i < as'.length) (h' : i < rs.length), CanR sg (putN (lkB bs) as'[i].2.1 as'[i].2.2) rs[i].tn) ∧ Below w2.heap.size w2 wr) (fun _ _ _ _ iv _ => as'.length - (intOf iv).toNat)
  case atStart => exact ⟨0, _, [], Nat.zero_le _, rfl, rfl, rfl, SepB.nil _ _, by simp, fun i _ h' => absurd h' (by simp), Below.refl _ _⟩
  case round =>
    obtain ⟨j, ov, rs, hj, rfl, rfl, hrl, hL, hle, hcan, hlow⟩ := hrel
    have HL := hid hL; have HLE := hid hle; have HCAN := hid hcan; have HW := hid hlow; have HRL := hid hrl
    clear hL hle hcan hlow hrl
    by_cases hlt : j < as'.length
    · obtain ⟨b1, o1, a1, c1, rfl, hbd⟩ := (HA2.out.below HW.out).cells j hlt
      have htk : as'.take (j + 1) = as'.take j ++ [as'[j]] := List.take_succ_eq_append_getElem hlt
      have hmem : as'[j] ∈ as' := List.getElem_mem hlt
      obtain ⟨⟨vn, ⟨x, l⟩⟩, hy⟩ : ∃ y, as'[j] = y := ⟨_, rfl⟩
      rw [hy] at hbd htk hmem
      have HTK := hid htk; have HY := hid hy; have HMEM := hid hmem
      have HBD := hid hbd
      have p0 := hbd.var; have p1 := hbd.name; have p2 := hbd.sym; have p3 := hbd.list
      dsimp only at p0 p1 p2 p3
      have bx := alloc_below0 wr (.cells #[.string vn, .string x.1, .int .i64 x.2, .slice a1 (lenF l) c1] 50)
      have BX : Hid (Box (wr.alloc (.cells #[.string vn, .string x.1, .int .i64 x.2, .slice a1 (lenF l) c1] 50)) wr.heap.size 50 #[.string vn, .string x.1, .int .i64 x.2, .slice a1 (lenF l) c1]) := hid (Box.new wr 50 _)
      have HBX := hid bx
      have HAP := hid (apply_any (.map (some tb)) (lkB bs) S n cap sg x l a1 c1 _ ((HS2.out.below HW.out).below bx) (hbd.tm.below bx) (.inr ⟨_, _, rfl, (T2.out.below HW.out).below bx⟩))
      have hwz := HW.out.size
      clear hbd htk hy hmem bx
      go_wp2_with fail
      clear p0 p1 p2 p3
      generalize wr.alloc (.cells #[.string vn, .string x.1, .int .i64 x.2, .slice a1 (lenF l) c1] 50) = V at HBX BX HAP ⊢
      refine HAP.out.mono ?_
      intro e w3 hend
      obtain ⟨k, er, rfl, hb3, hE3, hr3⟩ := ApplyEnd.form2 (sg := sg) (lk := lkB bs) (x := x) (l := l) hend
      have bz := alloc_below0 w3 (.cells #[.string k.x.1, .int .i64 k.x.2, .slice k.a (lenF k.l) k.c] 27)
      have HB3 := hid (HBX.out.trans ((hb3.trans (bz.mono hb3.size)).mono HBX.out.size))
      have XB := (BX.out.below hb3).below bz
      have YB : XBox (w3.alloc (.cells #[.string k.x.1, .int .i64 k.x.2, .slice k.a (lenF k.l) k.c] 27)) w3.heap.size k.x (.slice k.a (lenF k.l) k.c) := World.alloc_heap_new w3 _
      have HE3 : Hid (SepTm (w3.alloc (.cells #[.string k.x.1, .int .i64 k.x.2, .slice k.a (lenF k.l) k.c] 27)) (fun q => wr.heap.size ≤ q) k.x k.a k.c k.l) := hid ((SepTm.mono (fun q hq => by have := HBX.out.size; omega) hE3.1).below bz)
      have HR3 := hid hr3
      have q0 := XB.c 0
      have y0 := YB.c0; have y1 := YB.c1; have y2 := YB.c2
      clear hend hb3 hE3 hr3 bz XB YB BX HBX HAP
      rcases HR3.out with ⟨h1, h2, rfl⟩ | ⟨h1, rfl, h2⟩
      · have H1 := hid h1
        clear h1 h2 HR3
        go_wp2_with fail
        go_ret2
        refine ⟨B2.out.trans ((HW.out.trans (HB3.out.mono hwz)).mono B2.out.size), .inl ⟨rfl, _, HMEM.out, H1.out⟩⟩
      · have H1 := hid h1; have H2 := hid h2
        clear h1 h2 HR3
        have hnew : comp1 (as'.take (j + 1)) (rs ++ [k]) = comp1 (as'.take j) rs ++ if (k.x.1.toList == vn.toList) = true then [] else [(vn, k)] := by
          rw [HTK.out]
          exact comp1_snoc (by rw [HRL.out, List.length_take]; omega) (vn, (x, l)) k
        have hle2 : ∀ b ∈ as'.take (j + 1), 0 ≤ leftN (lkB bs) b.2.1 b.2.2 400 := fun b hb => by
          rw [HTK.out] at hb
          rcases List.mem_append.1 hb with hb | hb
          · exact HLE.out b hb
          · rw [List.mem_singleton.1 hb]; exact H1.out
        have hcan2 : ∀ i (h : i < as'.length) (h' : i < (rs ++ [k]).length), CanR sg (putN (lkB bs) as'[i].2.1 as'[i].2.2) (rs ++ [k])[i].tn := fun i h h' => by
          by_cases hi : i < rs.length
          · rw [List.getElem_append_left hi]; exact HCAN.out i h hi
          · have hij : i = j := by rw [List.length_append, List.length_singleton] at h'; have := HRL.out; omega
            subst hij
            simp only [HY.out]
            have e : (rs ++ [k])[i]'h' = k := by
              rw [List.getElem_append_right (by omega)]
              simp [HRL.out]
            rw [e]
            exact H2.out
        have HLE2 := hid hle2; have HCAN2 := hid hcan2; have HNEW := hid hnew
        clear hle2 hcan2 hnew
        by_cases he : k.x.1.toList = vn.toList
        · have heb : (k.x.1.toList == vn.toList) = true := by simp [he]
          have HEB := hid heb
          go_wp2_with fail
          go_roundw
          case rel => exact ⟨j + 1, _, rs ++ [k], by omega, rfl, by go_num, by rw [List.length_append, HRL.out]; rfl, by rw [HNEW.out, if_pos HEB.out, List.append_nil]; exact HL.out.below HB3.out, HLE2.out, HCAN2.out, HW.out.trans (HB3.out.mono hwz)⟩
          case measure => simp [intOf]; omega
        · have heb : (k.x.1.toList == vn.toList) = false := by simp [he]
          have HEB := hid heb
          have hcl := comp1_len (as'.take j) rs
          rw [List.length_take] at hcl
          obtain ⟨K, hK⟩ : ∃ K, comp1 (as'.take j) rs = K := ⟨_, rfl⟩
          rw [hK] at HL HNEW hcl
          have by4 := alloc_below0 (w3.alloc (.cells #[.string k.x.1, .int .i64 k.x.2, .slice k.a (lenF k.l) k.c] 27)) (.cells #[.string vn, .string k.x.1, .int .i64 k.x.2, .slice k.a (lenF k.l) k.c] 50)
          have HB4 := hid (HB3.out.trans (by4.mono HB3.out.size))
          have hz4 : w3.heap.size + 1 + 1 = ((w3.alloc (.cells #[.string k.x.1, .int .i64 k.x.2, .slice k.a (lenF k.l) k.c] 27)).alloc (.cells #[.string vn, .string k.x.1, .int .i64 k.x.2, .slice k.a (lenF k.l) k.c] 50)).heap.size := by simp
          have HZ4 := hid hz4
          have HCL := hid (show K.length ≤ 1000000 by omega)
          have hnw : ((w3.alloc (.cells #[.string k.x.1, .int .i64 k.x.2, .slice k.a (lenF k.l) k.c] 27)).alloc (.cells #[.string vn, .string k.x.1, .int .i64 k.x.2, .slice k.a (lenF k.l) k.c] 50)).heap[w3.heap.size + 1]? = some (.cells #[.string vn, .string k.x.1, .int .i64 k.x.2, .slice k.a (lenF k.l) k.c] 50 (0, 0)) := by
            have := World.alloc_heap_new (w3.alloc (.cells #[.string k.x.1, .int .i64 k.x.2, .slice k.a (lenF k.l) k.c] 27)) (.cells #[.string vn, .string k.x.1, .int .i64 k.x.2, .slice k.a (lenF k.l) k.c] 50)
            rw [World.size_alloc] at this
            exact this
          have HNW := hid hnw
          clear hK by4 hz4 hcl hnw
          go_wp2_with (at_builtin; refine wpList_append_bk rfl _ _ rfl w2.heap.size ov K rfl (owns_below HL.out.row HB4.out) (w3.heap.size + 1) (vn, k) rfl (World.news_of_block HNW.out) (by have := HCL.out; omega) (by have := HB4.out.size; omega) ?_; intro g5 cap5 w5 hown5 hgrow5 hat5; have HO5 := hid hown5; have HG5 := hid hgrow5; have HA5 := hid hat5; clear hown5 hgrow5 hat5)
          go_roundw
          case rel =>
            have hgr : SepB w2.heap.size w5 (.slice (some ⟨g5, 0, none⟩) (K.length + 1) cap5) (K ++ [(vn, k)]) := HL.out.grow HB4.out (HE3.out.below (alloc_below0 (w3.alloc (.cells #[.string k.x.1, .int .i64 k.x.2, .slice k.a (lenF k.l) k.c] 27)) _)) hwz HG5.out (HA5.out.imp (fun e => e) (fun e => by rw [e]; rfl)) HO5.out
            refine ⟨j + 1, _, rs ++ [k], by omega, rfl, by go_num, by rw [List.length_append, HRL.out]; rfl, by rw [HNEW.out, if_neg (by simp [HEB.out])]; exact hgr, HLE2.out, HCAN2.out, HW.out.trans ((HB4.out.mono hwz).grown HG5.out (by rw [← HZ4.out]; have := HB3.out.size; rw [World.size_alloc] at this; omega) (fun q e => (owns_cells HL.out.row e).1))⟩
          case measure => simp [intOf]; omega
    · have hjl : j = as'.length := by omega
      subst hjl
      have hL2 := HL.out; have hle2 := HLE.out
      rw [List.take_of_length_le (Nat.le_refl _)] at hL2 hle2
      have HL2 := hid hL2; have HLE2 := hid hle2
      have hcl := comp1_len as' rs
      obtain ⟨K, hK⟩ : ∃ K, comp1 as' rs = K := ⟨_, rfl⟩
      rw [hK] at HL2 hcl
      have HK := hid hK; have HCL := hid (show K.length ≤ as'.length from hcl)
      clear hL2 hle2 HL HLE hK hcl
      go_wp2_with fail
      go_loopw [10, 16, 17, 18, 55] (fun ov _ _ _ iv wr2 => ∃ (i : Nat) (v : Value) (ms : List Bk), i ≤ bs.length ∧ v = ov ∧ iv = .int .i64 i ∧ SepB w2.heap.size wr2 v (K ++ ms) ∧ ms.map bkBn = (bs.take i).filter (fun b => (lkB as' b.1).isNone) ∧ Below w2.heap.size w2 wr2) (fun _ _ _ _ iv _ => bs.length - (intOf iv).toNat)
      case atStart => exact ⟨0, _, [], Nat.zero_le _, rfl, rfl, by rw [List.append_nil]; exact HL2.out, by simp, HW.out⟩
      case round =>
        obtain ⟨i, ov, ms, hi, rfl, rfl, hL, hms, hlow⟩ := hrel
        have HLm := hid hL; have HMS := hid hms; have HWi := hid hlow
        have hml : ms.length ≤ i := by
          have := congrArg List.length hms
          rw [List.length_map] at this
          have h2 := List.length_filter_le (fun b : Bn => (lkB as' b.1).isNone) (bs.take i)
          rw [List.length_take] at h2
          omega
        clear hL hms hlow
        by_cases hlt2 : i < bs.length
        · obtain ⟨b1, o1, a1, c1, rfl, hbd⟩ := (HB2.out.below HWi.out).cells i hlt2
          have hfit := HFB.out bs[i] (List.getElem_mem hlt2)
          have htk : bs.take (i + 1) = bs.take i ++ [bs[i]] := List.take_succ_eq_append_getElem hlt2
          obtain ⟨⟨vn, ⟨x, l⟩⟩, hy⟩ : ∃ y, bs[i] = y := ⟨_, rfl⟩
          rw [hy] at hbd htk hfit
          have HTK := hid htk
          have HBD := hid hbd
          have p0 := hbd.var; have p1 := hbd.name; have p2 := hbd.sym; have p3 := hbd.list
          dsimp only at p0 p1 p2 p3 hfit
          have bx := alloc_below0 wr (.cells #[.string vn, .string x.1, .int .i64 x.2, .slice a1 (lenF l) c1] 50)
          have BX : Hid (Box (wr.alloc (.cells #[.string vn, .string x.1, .int .i64 x.2, .slice a1 (lenF l) c1] 50)) wr.heap.size 50 #[.string vn, .string x.1, .int .i64 x.2, .slice a1 (lenF l) c1]) := hid (Box.new wr 50 _)
          have HBX := hid bx
          have hwz := HWi.out.size
          have hrun := tab_run (.inr ⟨_, _, rfl, T1'.out.below HWi.out⟩ : TabV wr (.map (some w.heap.size)) (lkB as')) vn hfit
          clear hbd hy htk bx
          rcases hrun with ⟨hlk, hrun⟩ | ⟨t, at', ct, hlk, _, hrun⟩
          · have hr := hrun _ HBX.out
            have HLK := hid hlk
            have bz := alloc_below0 (wr.alloc (.cells #[.string vn, .string x.1, .int .i64 x.2, .slice a1 (lenF l) c1] 50)) (.cells #[.string ⟨#[]⟩, .int .i64 0, .slice none 0 0] 27)
            have HB3 := hid (HBX.out.trans (bz.mono HBX.out.size))
            have XB := BX.out.below bz
            have q0 := XB.c 0; have q1 := XB.c 1; have q2 := XB.c 2; have q3 := XB.c 3
            have HC := hid (cloneb_any vn x l a1 c1 _ (HBD.out.tm.below HB3.out))
            clear hrun hlk bz XB BX
            go_wp2_with fail
            clear p0 p1 p2 p3 hr q0 q1 q2 q3
            generalize (wr.alloc (.cells #[.string vn, .string x.1, .int .i64 x.2, .slice a1 (lenF l) c1] 50)).alloc (.cells #[.string ⟨#[]⟩, .int .i64 0, .slice none 0 0] 27) = V at HB3 HC ⊢
            refine HC.out.mono ?_
            rintro e w3 ⟨a', c', rfl, hs3, hb3⟩
            have HS3 : Hid (SepTm w3 (fun q => wr.heap.size ≤ q) x a' c' l) := hid (hs3.mono (fun q hq => by have := HB3.out.size; omega))
            have HB4 := hid (HB3.out.trans (hb3.mono HB3.out.size))
            have by3 := alloc_below0 w3 (.cells #[.string vn, .string x.1, .int .i64 x.2, .slice a' (lenF l) c'] 50)
            have HB5 := hid (HB4.out.trans (by3.mono HB4.out.size))
            have hz4 : w3.heap.size + 1 = (w3.alloc (.cells #[.string vn, .string x.1, .int .i64 x.2, .slice a' (lenF l) c'] 50)).heap.size := by simp
            have HZ4 := hid hz4
            clear hs3 hb3 HC by3 hz4
            go_wp2_with (at_builtin; refine wpList_append_bk rfl _ _ rfl w2.heap.size ov (K ++ ms) rfl (owns_below HLm.out.row HB5.out) w3.heap.size (vn, ⟨x, l, a', c'⟩) rfl (World.news_of_block (heap_alloc_new w3 _)) (by rw [List.length_append]; have := HCL.out; omega) (by have := HB5.out.size; omega) ?_; intro g5 cap5 w5 hown5 hgrow5 hat5; have HO5 := hid hown5; have HG5 := hid hgrow5; have HA5 := hid hat5; clear hown5 hgrow5 hat5)
            go_roundw
            case rel =>
              have hgr : SepB w2.heap.size w5 (.slice (some ⟨g5, 0, none⟩) ((K ++ ms).length + 1) cap5) ((K ++ ms) ++ [(vn, ⟨x, l, a', c'⟩)]) := HLm.out.grow HB5.out (HS3.out.below (alloc_below0 w3 _)) hwz HG5.out (HA5.out.imp (fun e => e) (fun e => by rw [e]; rfl)) HO5.out
              rw [List.append_assoc, List.length_append] at hgr
              refine ⟨i + 1, _, ms ++ [(vn, ⟨x, l, a', c'⟩)], by omega, rfl, by go_num, hgr, by rw [HTK.out, List.filter_append, ← HMS.out]; simp [bkBn, Kv.tn, HLK.out], HWi.out.trans ((HB5.out.mono hwz).grown HG5.out (by rw [← HZ4.out]; have := HB4.out.size; omega) (fun q e => (owns_cells HLm.out.row e).1))⟩
            case measure => simp [intOf]; omega
          · have hr := hrun _ HBX.out
            have HLK := hid hlk
            have bz := alloc_below0 (wr.alloc (.cells #[.string vn, .string x.1, .int .i64 x.2, .slice a1 (lenF l) c1] 50)) (.cells #[.string t.1.1, .int .i64 t.1.2, .slice at' (lenF t.2) ct] 27)
            have HB3 := hid (HBX.out.trans (bz.mono HBX.out.size))
            clear hrun hlk bz BX
            go_wp2_with fail
            go_roundw
            case rel => exact ⟨i + 1, _, ms, by omega, rfl, by go_num, HLm.out.below HB3.out, by rw [HTK.out, List.filter_append, ← HMS.out]; simp [HLK.out], HWi.out.trans (HB3.out.mono hwz)⟩
            case measure => simp [intOf]; omega
        · have hil : i = bs.length := by omega
          subst hil
          have hms2 := HMS.out
          rw [List.take_of_length_le (Nat.le_refl _)] at hms2
          have HMS2 := hid hms2
          have HC := hid (sort_any w2.heap.size ov (K ++ ms) wr HLm.out (by rw [List.length_append]; have := HCL.out; omega))
          clear hms2 HMS
          go_wp2_with fail
          refine HC.out.mono ?_
          rintro e w3 ⟨rfl, R, h1, h2, h3, h4⟩
          have H1 := hid h1; have H2 := hid h2; have H3 := hid h3; have H4 := hid h4
          clear h1 h2 h3 h4 HC
          go_wp2
          go_ret2
          refine ⟨B2.out.trans ((HWi.out.trans (H4.out.below (fun _ h => h) HWi.out.size)).mono B2.out.size), .inr ⟨HLE2.out, ov, K, ms, R, rs, rfl, HRL.out.symm, HCAN.out, HK.out.symm, HMS2.out, H1.out, H2.out, H3.out.base B2.out.size⟩⟩
end Go.Proofs.Ytgidgmgpgfonnaa
/- Plain: what is put into a term, and canonical forms: a canonical form does for its term; no more nodes; first one, then another is their composition. -/
namespace Go.Proofs.Ytgidgmgpgfonnaa
open Go.RowKit

/-- Terms in which others stand for variables. -/
def subF (g : ByteArray → Tn) : Fo → Fo
  | .nil => .nil
  | .node B O x l r => if noName x.1 = true then .node B O x (subF g l) (subF g r) else .node B O (g x.1).1 (g x.1).2 (subF g r)
def subN (g : ByteArray → Tn) (t : Tn) : Tn := if noName t.1.1 = true then (t.1, subF g t.2) else g t.1.1
theorem pinF_sub (bs : List Bn) : ∀ F : Fo, pinF bs F = subF (getN bs) F
  | .nil => rfl
  | .node _ _ x l r => by unfold pinF subF; rw [pinF_sub bs l, pinF_sub bs r]
theorem pinN_sub (bs : List Bn) (t : Tn) : pinN bs t.1 t.2 = subN (getN bs) t := by
  unfold pinN subN
  rw [pinF_sub]
theorem kids_sub (g : ByteArray → Tn) : ∀ F : Fo, kidsL (subF g F) = (kidsL F).map (subN g)
  | .nil => rfl
  | .node _ _ x l r => by
    unfold subF
    by_cases h : noName x.1 = true
    · rw [if_pos h]
      simp only [kidsL, List.map_cons]
      rw [kids_sub g r]
      unfold subN
      rw [if_pos h]
    · rw [if_neg h]
      simp only [kidsL, List.map_cons]
      rw [kids_sub g r]
      unfold subN
      rw [if_neg h]
theorem subF_len (g : ByteArray → Tn) (F : Fo) : lenF (subF g F) = lenF F := by rw [← kids_len, kids_sub, List.length_map, kids_len]
/-- What stands for variables is right. -/
def RightG (S : Sg) (ar : Int → Nat) (g : ByteArray → Tn) : Prop := ∀ s, noName s = false → RightT S ar (g s)
theorem getN_rightG {S : Sg} {ar : Int → Nat} {bs : List Bn} (hb : ∀ b ∈ bs, RightT S ar b.2) : RightG S ar (getN bs) := fun _ hs => getN_right hb hs
theorem kid_less {F : Fo} {k : Tn} (h : k ∈ kidsL F) : nodesF k.2 < nodesF F := by
  rw [nodes_sizes F]
  have : ∀ l : List Tn, k ∈ l → nodesF k.2 < sizes l := fun l => by
    induction l with
    | nil => intro h; cases h
    | cons t r ih =>
      intro h
      rw [sizes_cons]
      rcases List.mem_cons.1 h with rfl | h
      · unfold sizeT; omega
      · have := ih h; omega
  exact this _ h
theorem subN_right {S : Sg} {ar : Int → Nat} {g : ByteArray → Tn} (hg : RightG S ar g) : ∀ (n : Nat) (t : Tn), nodesF t.2 ≤ n → RightT S ar t → RightT S ar (subN g t) := by
  intro n
  induction n using Nat.strongRecOn with
  | _ n ih =>
    intro t hn h
    unfold subN
    by_cases hx : noName t.1.1 = true
    · rw [if_pos hx]
      refine ⟨by show nodeOk S ar t.1 (lenF (subF g t.2)); rw [subF_len]; exact h.1, right_kids.2 ?_⟩
      show ∀ k ∈ kidsL (subF g t.2), _
      rw [kids_sub]
      intro k hk
      obtain ⟨k', hk', rfl⟩ := List.mem_map.1 hk
      have := kid_less hk'
      exact ih (nodesF k'.2) (by omega) k' (Nat.le_refl _) (right_kids.1 h.2 k' hk')
    · rw [if_neg hx]
      exact hg _ (by simpa using hx)
theorem subG_right {S : Sg} {ar : Int → Nat} {g : ByteArray → Tn} (hg : RightG S ar g) {t : Tn} (h : RightT S ar t) : RightT S ar (subN g t) := subN_right hg _ t (Nat.le_refl _) h
/-- The parts of a canonical term, each with what stands for its variables, are the parts of the term with it. -/
theorem sub_parts {S : Sg} {ar : Int → Nat} (hS : S.Ok ar) {g : ByteArray → Tn} (hg : RightG S ar g) {f : Int} (hj : S.joins f = true) {c : Tn} (hc : CanT S ar c) : List.Perm (pc S f (subN g c)) ((partsN S f c).flatMap fun p => pc S f (subN g p)) := by
  unfold partsN
  rw [if_neg (by simp [hj])]
  by_cases h1 : isUn S f c = true
  · rw [if_pos h1]
    obtain ⟨u, hu, rfl⟩ := isUn_some h1
    have e : subN g (constT u) = constT u := by
      unfold subN constT
      rw [if_pos noName_noB]
      rfl
    rw [e, pc_const hS hj hu]
    exact List.Perm.refl _
  · rw [if_neg h1]
    by_cases h2 : headed f c = true
    · rw [if_pos h2]
      obtain ⟨h3, h4⟩ := headed_iff.1 h2
      have e : subN g c = (c.1, subF g c.2) := by unfold subN; rw [if_pos h3]
      have hr := subG_right hg (right_of_can hc)
      rw [e] at hr ⊢
      have := canonT_parts hS (t := (c.1, subF g c.2)) (by show S.joins c.1.2 = true; rw [h4]; exact hj) h3 hr
      rw [show ((c.1, subF g c.2) : Tn).1.2 = f from h4] at this
      refine this.trans ?_
      show List.Perm ((kidsL (subF g c.2)).flatMap (pc S f)) _
      rw [kids_sub, List.flatMap_map]
    · rw [if_neg h2]
      simp
theorem flatMap_perm {α β : Type} {f g : α → List β} : ∀ {l : List α}, (∀ a ∈ l, List.Perm (f a) (g a)) → List.Perm (l.flatMap f) (l.flatMap g)
  | [], _ => List.Perm.refl _
  | a :: r, h => by
    rw [List.flatMap_cons, List.flatMap_cons]
    exact (h a (by simp)).append (flatMap_perm fun b hb => h b (by simp [hb]))
/-- A canonical form does for its term. -/
theorem sub_canon_all {S : Sg} {ar : Int → Nat} (hS : S.Ok ar) {g : ByteArray → Tn} (hg : RightG S ar g) : ∀ (n : Nat) (t : Tn), nodesF t.2 ≤ n → RightT S ar t → canonT S (subN g (canonT S t)) = canonT S (subN g t) := by
  intro n
  induction n using Nat.strongRecOn with
  | _ n ih =>
    intro t hn h
    have IH : ∀ k ∈ kidsL t.2, canonT S (subN g (canonT S k)) = canonT S (subN g k) := fun k hk => by
      have := kid_less hk
      exact ih (nodesF k.2) (by omega) k (Nat.le_refl _) (right_kids.1 h.2 k hk)
    by_cases hx : noName t.1.1 = true
    · by_cases hj : S.joins t.1.2 = true
      · have hc := canonT_can hS h
        refine (eq_iff hS hj (subG_right hg (right_of_can hc)) (subG_right hg h)).2 ?_
        refine (sub_parts hS hg hj hc).trans ?_
        have e : subN g t = (t.1, subF g t.2) := by unfold subN; rw [if_pos hx]
        have hr := subG_right hg h
        rw [e] at hr ⊢
        have h1 := canonT_parts hS (t := (t.1, subF g t.2)) hj hx hr
        refine List.Perm.trans ?_ h1.symm
        show List.Perm _ ((kidsL (subF g t.2)).flatMap (pc S t.1.2))
        rw [kids_sub, List.flatMap_map]
        have h2 := canonT_parts hS hj hx h
        refine (h2.flatMap_right (fun p => pc S t.1.2 (subN g p))).trans ?_
        rw [List.flatMap_assoc]
        refine flatMap_perm fun k hk => ?_
        have h3 := sub_parts hS hg hj (canonT_can hS (right_kids.1 h.2 k hk))
        refine (show List.Perm ((pc S t.1.2 k).flatMap fun p => pc S t.1.2 (subN g p)) _ from h3.symm).trans ?_
        unfold pc
        rw [IH k hk]
      · have hj' : S.joins t.1.2 = false := by simpa using hj
        rw [canon_free hx hj']
        have e1 : subN g ((noB, t.1.2), mkF ((kidsL t.2).map (canonT S))) = ((noB, t.1.2), subF g (mkF ((kidsL t.2).map (canonT S)))) := by
          unfold subN
          rw [if_pos noName_noB]
        have e2 : subN g t = (t.1, subF g t.2) := by unfold subN; rw [if_pos hx]
        rw [e1, e2, canon_free (t := ((noB, t.1.2), subF g (mkF ((kidsL t.2).map (canonT S))))) noName_noB hj', canon_free (t := (t.1, subF g t.2)) hx hj']
        show ((noB, t.1.2), mkF ((kidsL (subF g (mkF _))).map (canonT S))) = ((noB, t.1.2), mkF ((kidsL (subF g t.2)).map (canonT S)))
        rw [kids_sub, kids_sub, kids_mk, List.map_map, List.map_map, List.map_map]
        congr 2
        exact List.map_congr_left fun k hk => IH k hk
    · have hx' : noName t.1.1 = false := by simpa using hx
      have e1 : canonT S t = ((t.1.1, 0), .nil) := by unfold canonT canon1; rw [if_pos hx']
      rw [e1]
      unfold subN
      rw [if_neg hx, if_neg (by simpa using hx')]
theorem sub_canon {S : Sg} {ar : Int → Nat} (hS : S.Ok ar) {g : ByteArray → Tn} (hg : RightG S ar g) {t : Tn} (h : RightT S ar t) : canonT S (subN g (canonT S t)) = canonT S (subN g t) := sub_canon_all hS hg _ t (Nat.le_refl _) h
/-- What is equal, put in, makes what is equal. -/
theorem sub_same_all {S : Sg} {ar : Int → Nat} {g k : ByteArray → Tn} (he : ∀ s, noName s = false → canonT S (g s) = canonT S (k s)) : ∀ (n : Nat) (t : Tn), nodesF t.2 ≤ n → RightT S ar t → canonT S (subN g t) = canonT S (subN k t) := by
  intro n
  induction n using Nat.strongRecOn with
  | _ n ih =>
    intro t hn h
    unfold subN
    by_cases hx : noName t.1.1 = true
    · rw [if_pos hx, if_pos hx]
      unfold canonT
      dsimp only
      congr 1
      rw [canonL_map, canonL_map, kids_sub, kids_sub, List.map_map, List.map_map]
      refine List.map_congr_left fun c hc => ?_
      have := kid_less hc
      exact ih (nodesF c.2) (by omega) c (Nat.le_refl _) (right_kids.1 h.2 c hc)
    · rw [if_neg hx, if_neg hx]
      exact he _ (by simpa using hx)
theorem sub_same {S : Sg} {ar : Int → Nat} {g k : ByteArray → Tn} (he : ∀ s, noName s = false → canonT S (g s) = canonT S (k s)) {t : Tn} (h : RightT S ar t) : canonT S (subN g t) = canonT S (subN k t) := sub_same_all he _ t (Nat.le_refl _) h
/-- First one, then the other. -/
theorem subF_subF (g k : ByteArray → Tn) : ∀ F : Fo, kidsL (subF k (subF g F)) = (kidsL F).map fun t => subN k (subN g t) := fun F => by rw [kids_sub, kids_sub, List.map_map]; rfl
theorem sub_sub_all {S : Sg} {g k : ByteArray → Tn} : ∀ (n : Nat) (t : Tn), nodesF t.2 ≤ n → canonT S (subN k (subN g t)) = canonT S (subN (fun s => subN k (g s)) t) := by
  intro n
  induction n using Nat.strongRecOn with
  | _ n ih =>
    intro t hn
    by_cases hx : noName t.1.1 = true
    · have e1 : subN g t = (t.1, subF g t.2) := by unfold subN; rw [if_pos hx]
      have e2 : subN k (t.1, subF g t.2) = (t.1, subF k (subF g t.2)) := by unfold subN; rw [if_pos hx]
      have e3 : subN (fun s => subN k (g s)) t = (t.1, subF (fun s => subN k (g s)) t.2) := by unfold subN; rw [if_pos hx]
      rw [e1, e2, e3]
      unfold canonT
      dsimp only
      congr 1
      rw [canonL_map, canonL_map, subF_subF, kids_sub, List.map_map, List.map_map]
      refine List.map_congr_left fun c hc => ?_
      have := kid_less hc
      exact ih (nodesF c.2) (by omega) c (Nat.le_refl _)
    · have e1 : subN g t = g t.1.1 := by unfold subN; rw [if_neg hx]
      have e3 : subN (fun s => subN k (g s)) t = subN k (g t.1.1) := by show (if noName t.1.1 = true then _ else _) = _; rw [if_neg hx]
      rw [e1, e3]
theorem sub_sub {S : Sg} (g k : ByteArray → Tn) (t : Tn) : canonT S (subN k (subN g t)) = canonT S (subN (fun s => subN k (g s)) t) := sub_sub_all _ t (Nat.le_refl _)

/-! ### how many nodes -/
def wtT (g : ByteArray → Tn) (t : Tn) : Nat := sizeT (subN g t)
def wts (g : ByteArray → Tn) (l : List Tn) : Nat := (l.map (wtT g)).sum
theorem wts_cons (g : ByteArray → Tn) (t : Tn) (l : List Tn) : wts g (t :: l) = wtT g t + wts g l := by simp [wts]
theorem wts_append (g : ByteArray → Tn) : ∀ l m : List Tn, wts g (l ++ m) = wts g l + wts g m
  | [], _ => by simp [wts]
  | t :: l, m => by rw [List.cons_append, wts_cons, wts_cons, wts_append g l m]; omega
theorem wts_perm {g : ByteArray → Tn} {l m : List Tn} (h : List.Perm l m) : wts g l = wts g m := by
  induction h with
  | nil => rfl
  | cons x _ ih => rw [wts_cons, wts_cons, ih]
  | swap x y l => simp only [wts_cons]; omega
  | trans _ _ h1 h2 => exact h1.trans h2
theorem wt_node (g : ByteArray → Tn) {t : Tn} (h : noName t.1.1 = true) : wtT g t = wts g (kidsL t.2) + 1 := by
  unfold wtT subN
  rw [if_pos h]
  show nodesF (subF g t.2) + 1 = _
  rw [nodes_sizes, kids_sub]
  unfold sizes wts
  rw [List.map_map]
  rfl
theorem parts_wt (S : Sg) (g : ByteArray → Tn) (f : Int) (t : Tn) : wts g (partsN S f t) ≤ wtT g t := by
  unfold partsN
  split
  · simp [wts]
  · split
    · simp [wts]
    · split
      · rename_i h
        rw [wt_node g (headed_iff.1 h).1]
        omega
      · simp [wts]
theorem flat_wt (S : Sg) (g : ByteArray → Tn) (f : Int) : ∀ cs : List Tn, wts g (cs.flatMap (partsN S f)) ≤ wts g cs
  | [] => Nat.le_refl _
  | c :: r => by
    rw [List.flatMap_cons, wts_append, wts_cons]
    have := parts_wt S g f c
    have := flat_wt S g f r
    omega
theorem const_wt (g : ByteArray → Tn) (u : Int) : wtT g (constT u) = 1 := by
  rw [wt_node g (t := constT u) noName_noB]
  rfl
theorem join_wt {S : Sg} {g : ByteArray → Tn} {f : Int} {l : List Tn} {t : Tn} (h : joinL S f l = some t) : wtT g t ≤ wts g l + 1 := by
  match l, h with
  | [], h =>
    simp only [joinL, Option.map_eq_some_iff] at h
    obtain ⟨u, _, rfl⟩ := h
    rw [const_wt]
    omega
  | [a], h =>
    simp only [joinL, Option.some.injEq] at h
    subst h
    simp [wts]
  | a :: b :: r, h =>
    simp only [joinL, Option.some.injEq] at h
    subst h
    rw [wt_node g (t := ((noB, f), mkF (sortN (a :: b :: r)))) noName_noB]
    show wts g (kidsL (mkF (sortN (a :: b :: r)))) + 1 ≤ _
    rw [kids_mk, wts_perm (sortN_perm _)]
    exact Nat.le_refl _
theorem canon_wt_all (S : Sg) (g : ByteArray → Tn) : ∀ (n : Nat) (t : Tn), nodesF t.2 ≤ n → wtT g (canonT S t) ≤ wtT g t := by
  intro n
  induction n using Nat.strongRecOn with
  | _ n ih =>
    intro t hn
    have IH : ∀ l : List Tn, (∀ k ∈ l, k ∈ kidsL t.2) → wts g (l.map (canonT S)) ≤ wts g l := fun l => by
      induction l with
      | nil => intro _; exact Nat.le_refl _
      | cons k r ihl =>
        intro hk
        rw [List.map_cons, wts_cons, wts_cons]
        have h1 := kid_less (hk k (by simp))
        have h2 := ih (nodesF k.2) (by omega) k (Nat.le_refl _)
        have h3 := ihl (fun k' hk' => hk k' (by simp [hk']))
        omega
    have h0 := IH (kidsL t.2) (fun _ h => h)
    by_cases hx : noName t.1.1 = true
    · rw [wt_node g hx]
      unfold canonT canon1
      rw [if_neg (by simp [hx]), canonL_map]
      by_cases hj : S.joins t.1.2 = true
      · rw [if_pos hj]
        unfold joinN
        rw [if_neg (by simp [hj])]
        cases hq : joinL S t.1.2 ((List.map (canonT S) (kidsL t.2)).flatMap (partsN S t.1.2)) with
        | none =>
          show wtT g (constT t.1.2) ≤ _
          rw [const_wt]
          omega
        | some q =>
          have h1 := join_wt (g := g) hq
          have h2 := flat_wt S g t.1.2 (List.map (canonT S) (kidsL t.2))
          show wtT g q ≤ _
          omega
      · rw [if_neg hj, wt_node g (t := ((noB, t.1.2), mkF (List.map (canonT S) (kidsL t.2)))) noName_noB]
        show wts g (kidsL (mkF _)) + 1 ≤ _
        rw [kids_mk]
        omega
    · have hx' : noName t.1.1 = false := by simpa using hx
      have e1 : canonT S t = ((t.1.1, 0), .nil) := by unfold canonT canon1; rw [if_pos hx']
      rw [e1]
      unfold wtT subN
      rw [if_neg hx, if_neg (by simpa using hx')]
      exact Nat.le_refl _
/-- A canonical form grows no more than its term. -/
theorem canon_wt (S : Sg) (g : ByteArray → Tn) (t : Tn) : sizeT (subN g (canonT S t)) ≤ sizeT (subN g t) := canon_wt_all S g _ t (Nat.le_refl _)
/-- First a, then b, is what says of each variable what b makes of what a says. -/
theorem sub_comp {S : Sg} {ar : Int → Nat} (hS : S.Ok ar) {g k c : ByteArray → Tn} (hg : RightG S ar g) (hk : RightG S ar k) (he : ∀ s, noName s = false → canonT S (c s) = canonT S (subN k (g s))) {t : Tn} (h : RightT S ar t) : canonT S (subN k (canonT S (subN g t))) = canonT S (subN c t) := by
  rw [sub_canon hS hk (subG_right hg h), sub_sub g k t]
  exact (sub_same he h).symm
end Go.Proofs.Ytgidgmgpgfonnaa
/- What the document's Vars answers. -/
namespace Go.Proofs.Ytgidgmgpgfonnaa
open Go.RowKit Go.Deep

set_option maxRecDepth 100000 in
set_option maxHeartbeats 1000000 in
theorem rvars_any (x : ByteArray × Int) (l : Fo) (a : Option Addr) (c : Nat) (w : World) (hT : TmAt w x a c l) (hbig : nodesF l + 1 ≤ 1048576) :
    Calls Try.prog 25 #[.agg #[.string x.1, .int .i64 x.2, .slice a (lenF l) c]] w fun e w' => ∃ v, e = .returned v ∧ w'.ownsRow w.heap.size 9 1 v (Lib.compact (sortL (namesN x ++ namesFo l))).length ((Lib.compact (sortL (namesN x ++ namesFo l))).map encStr) ∧ Below w.heap.size w w' := by
  have hl1 := namesN_len x
  have hl2 := namesFo_len l
  have hbb : (([] : List Nm).length + nodesF l + 2) * 16 ≤ 140737488355328 := by rw [List.length_nil]; exact Nat.le_trans (Nat.mul_le_mul_right 16 (show 0 + nodesF l + 2 ≤ 1048578 by omega)) (by decide)
  have hC := names_all (nodesF l) w x l a c (.slice none 0 0) [] (w.alloc (.cells #[.string x.1, .int .i64 x.2, .slice a (lenF l) c] 27)) (Nat.le_refl _) hT ((Below.refl _ _).alloc (Nat.le_refl _) _) (World.ownsRow_nil _ _ _ _) hbb
  obtain ⟨ss, hss⟩ : ∃ ss, namesN x ++ namesFo l = ss := ⟨_, rfl⟩
  have hsl : ss.length ≤ nodesF l + 1 := by rw [← hss, List.length_append]; omega
  rw [List.nil_append, hss] at hC
  rw [hss]
  clear hss hl1 hl2 hbb
  have hb0 : Hid (Below w.heap.size w (w.alloc (.cells #[.string x.1, .int .i64 x.2, .slice a (lenF l) c] 27))) := (Below.refl _ w).alloc (Nat.le_refl _) _
  go_enter Try.func25, Try.ntmps25
  go_wp2_with fail
  refine hC.mono ?_
  rintro e w1 ⟨v1, rfl, hr, hn⟩
  obtain ⟨a1, c1, rfl, _, _, hT1, _, _⟩ := texts_of_owns hr
  have HN : Hid (Below w.heap.size w w1) := hb0.out.trans hn.low
  have hC2 := Names_any a1 _ c1 _ w1 hT1 (by omega)
  clear hr hn hT1 hC
  go_wp2_with fail
  refine hC2.mono ?_
  rintro e w2 ⟨v2, rfl, hr2, hn2⟩
  have HR2 : Hid (w2.ownsRow w1.heap.size 9 1 v2 (Lib.compact (sortL ss)).length ((Lib.compact (sortL ss)).map encStr)) := hr2
  have HN2 : Hid (Below w1.heap.size w1 w2) := hn2
  clear hr2 hn2 hC2
  go_wp2
  go_ret
  exact ⟨v2, rfl, own_base9 HR2.out HN.out.size, HN.out.trans (HN2.out.mono HN.out.size)⟩
end Go.Proofs.Ytgidgmgpgfonnaa
/- Plain: what Compose answers of two substitutions says of each variable what the second makes of what the first says; a restriction to a term's variables does for the term. -/
namespace Go.Proofs.Ytgidgmgpgfonnaa
open Go.RowKit Go.Deep

theorem getB_mem : ∀ {l : List Bn} {s : ByteArray} {t : Tn}, (l.map (·.1)).Nodup → (s, t) ∈ l → getB l s = some t
  | b :: r, s, t, hn, hm => by
    rw [List.map_cons, List.nodup_cons] at hn
    unfold getB
    rcases List.mem_cons.1 hm with rfl | hm
    · simp
    · have hne : ¬ b.1 = s := fun e => hn.1 (List.mem_map.2 ⟨(s, t), hm, e.symm⟩)
      rw [List.find?_cons_of_neg (by simpa using hne)]
      exact getB_mem hn.2 hm
theorem getB_some {l : List Bn} {s : ByteArray} {t : Tn} (h : getB l s = some t) : (s, t) ∈ l := by
  unfold getB at h
  cases hf : l.find? (fun b => decide (b.1 = s)) with
  | none => rw [hf] at h; cases h
  | some b =>
    rw [hf] at h
    have h1 := List.find?_some hf
    have h2 := List.mem_of_find?_eq_some hf
    simp only [decide_eq_true_eq] at h1
    have h3 : b.2 = t := Option.some.inj h
    rw [← h1, ← h3]
    exact h2
theorem getN_some {l : List Bn} {s : ByteArray} {t : Tn} (h : getB l s = some t) : getN l s = t := by unfold getN; rw [h]
theorem getN_none {l : List Bn} {s : ByteArray} (h : getB l s = none) : getN l s = ((s, 0), .nil) := by unfold getN; rw [h]
theorem comp1_mem {as' : List Bn} {rs : List Kv} {k : Bk} (h : k ∈ comp1 as' rs) : ∃ i, ∃ (h1 : i < as'.length) (h2 : i < rs.length), k = (as'[i].1, rs[i]) ∧ (rs[i].x.1.toList == as'[i].1.toList) = false := by
  unfold comp1 at h
  obtain ⟨p, hp, rfl⟩ := List.mem_map.1 h
  obtain ⟨hp1, hp2⟩ := List.mem_filter.1 hp
  obtain ⟨i, hi, rfl⟩ := List.getElem_of_mem hp1
  rw [List.length_zip] at hi
  refine ⟨i, by omega, by omega, ?_, ?_⟩
  · simp
  · simpa using hp2
theorem comp1_in {as' : List Bn} {rs : List Kv} {i : Nat} (h1 : i < as'.length) (h2 : i < rs.length) (h : (rs[i].x.1.toList == as'[i].1.toList) = false) : (as'[i].1, rs[i]) ∈ comp1 as' rs := by
  unfold comp1
  refine List.mem_map.2 ⟨(as'[i], rs[i]), List.mem_filter.2 ⟨?_, by simp [h]⟩, rfl⟩
  have hz : i < (as'.zip rs).length := by rw [List.length_zip]; omega
  have := List.getElem_mem hz
  rwa [List.getElem_zip] at this
theorem comp1_names (as' : List Bn) (rs : List Kv) : ((comp1 as' rs).map (·.1)).Sublist (as'.map (·.1)) := by
  unfold comp1
  rw [List.map_map]
  have h1 : ((as'.zip rs).filter (fun p => !(p.2.x.1.toList == p.1.1.toList))).map ((·.1) ∘ fun p => (p.1.1, p.2)) = (((as'.zip rs).filter (fun p => !(p.2.x.1.toList == p.1.1.toList))).map Prod.fst).map (·.1) := by rw [List.map_map]; rfl
  rw [h1]
  refine List.Sublist.map _ ?_
  refine (List.Sublist.map Prod.fst List.filter_sublist).trans ?_
  have : ∀ (l : List Bn) (m : List Kv), ((l.zip m).map Prod.fst).Sublist l := fun l => by
    induction l with
    | nil => intro m; simp
    | cons x r ih =>
      intro m
      cases m with
      | nil => simp
      | cons y s => simpa using ih s
  exact this as' rs
/-- What Compose answered, read as binds. -/
structure CompOk (sg : List Sym) (as' bs : List Bn) (C : List Bn) : Prop where
  nodup : (C.map (·.1)).Nodup
  right : ∀ b ∈ C, RightT (sgOf sg) (arAt sg) b.2
  get : ∀ s, noName s = false → canonT (sgOf sg) (getN C s) = canonT (sgOf sg) (subN (getN bs) (getN as' s))
theorem lk_none {as' : List Bn} {s : ByteArray} (h : (lkB as' s).isNone = true) (hn : (as'.map (·.1)).Nodup) : ∀ b ∈ as', b.1 ≠ s := fun b hb e => by
  rw [lk_get' hn] at h
  have : getB as' s = some b.2 := getB_mem hn (by rw [← e]; exact hb)
  rw [this] at h
  cases h
theorem comp_ok {sg : List Sym} {as' bs : List Bn} {ks ms R : List Bk} {rs : List Kv} (hOk : (sgOf sg).Ok (arAt sg)) (hA : SubOk sg as') (hB : SubOk sg bs) (hl : as'.length = rs.length) (hr : ∀ i (h : i < as'.length) (h' : i < rs.length), CanR sg (putN (lkB bs) as'[i].2.1 as'[i].2.2) rs[i].tn) (hk : ks = comp1 as' rs) (hm : ms.map bkBn = bs.filter (fun b => (lkB as' b.1).isNone)) (hp : (ks ++ ms).Perm R) : CompOk sg as' bs (R.map bkBn) := by
  have hrt : ∀ i (h : i < as'.length) (h' : i < rs.length), rs[i].tn = canonT (sgOf sg) (subN (getN bs) as'[i].2) := fun i h h' => by
    have h1 := hA.rights as'[i] (List.getElem_mem h)
    have h2 := hr i h h'
    rw [putN_pin hB.nodup _ _ h1] at h2
    rw [h2.2 hOk (pinN_right hB.rights _ _ h1), pinN_sub]
  have hgB : RightG (sgOf sg) (arAt sg) (getN bs) := getN_rightG hB.rights
  have hcan : ∀ i (h : i < as'.length), CanT (sgOf sg) (arAt sg) (canonT (sgOf sg) (subN (getN bs) as'[i].2)) := fun i h => canonT_can hOk (subG_right hgB (hA.rights _ (List.getElem_mem h)))
  have hn1 : ((ks ++ ms).map (·.1)).Nodup := by
    rw [List.map_append, List.nodup_append]
    refine ⟨?_, ?_, ?_⟩
    · rw [hk]; exact hA.nodup.sublist (comp1_names as' rs)
    · have e : ms.map (·.1) = (ms.map bkBn).map (·.1) := by rw [List.map_map]; rfl
      rw [e, hm]
      exact hB.nodup.sublist (List.Sublist.map _ List.filter_sublist)
    · intro a ha b hb e
      subst e
      obtain ⟨k, hk1, rfl⟩ := List.mem_map.1 ha
      obtain ⟨m, hm1, hm2⟩ := List.mem_map.1 hb
      rw [hk] at hk1
      obtain ⟨i, h1, h2, rfl, _⟩ := comp1_mem hk1
      have hm3 : bkBn m ∈ bs.filter (fun b => (lkB as' b.1).isNone) := by rw [← hm]; exact List.mem_map_of_mem hm1
      have hm4 := (List.mem_filter.1 hm3).2
      exact lk_none hm4 hA.nodup as'[i] (List.getElem_mem h1) hm2.symm
  have hnC : ((R.map bkBn).map (·.1)).Nodup := by
    have e : (R.map bkBn).map (·.1) = R.map (·.1) := by rw [List.map_map]; rfl
    rw [e]
    exact (hp.map (·.1)).nodup_iff.1 hn1
  have hin : ∀ b : Bn, b ∈ R.map bkBn ↔ (∃ i, ∃ (h1 : i < as'.length) (h2 : i < rs.length), b = (as'[i].1, rs[i].tn) ∧ (rs[i].x.1.toList == as'[i].1.toList) = false) ∨ (b ∈ bs ∧ (lkB as' b.1).isNone = true) := fun b => by
    rw [← (hp.map bkBn).mem_iff, List.map_append, List.mem_append, hm, List.mem_filter]
    constructor
    · rintro (h | h)
      · obtain ⟨k, hk1, rfl⟩ := List.mem_map.1 h
        rw [hk] at hk1
        obtain ⟨i, h1, h2, rfl, h3⟩ := comp1_mem hk1
        exact .inl ⟨i, h1, h2, rfl, h3⟩
      · exact .inr h
    · rintro (⟨i, h1, h2, rfl, h3⟩ | h)
      · refine .inl (List.mem_map.2 ⟨(as'[i].1, rs[i]), by rw [hk]; exact comp1_in h1 h2 h3, rfl⟩)
      · exact .inr h
  refine ⟨hnC, fun b hb => ?_, fun s hs => ?_⟩
  · rcases (hin b).1 hb with ⟨i, h1, h2, rfl, _⟩ | ⟨h, _⟩
    · show RightT _ _ rs[i].tn
      rw [hrt i h1 h2]
      exact right_of_can (hcan i h1)
    · exact hB.rights b h
  · cases ha : getB as' s with
    | some t =>
      obtain ⟨i, hi, he⟩ := List.getElem_of_mem (getB_some ha)
      have hi2 : i < rs.length := by omega
      have e1 : as'[i].1 = s := by rw [he]
      have e2 : as'[i].2 = t := by rw [he]
      rw [getN_some ha]
      by_cases heq : (rs[i].x.1.toList == as'[i].1.toList) = true
      · have hno : getB (R.map bkBn) s = none := getB_none fun b hb e => by
          rcases (hin b).1 hb with ⟨j, h1, h2, rfl, h3⟩ | ⟨_, h⟩
          · have hij : i = j := by
              have hnd := hA.nodup
              have := (List.getElem_inj (xs := as'.map (·.1)) (h₀ := by simpa using hi) (h₁ := by simpa using h1) hnd).1 (by simp only [List.getElem_map]; rw [e1]; exact e.symm)
              exact this
            subst hij
            rw [heq] at h3
            cases h3
          · rw [e] at h
            exact lk_none h hA.nodup as'[i] (List.getElem_mem hi) e1
        rw [getN_none hno]
        have hx : rs[i].x.1 = s := by
          rw [← e1]
          have h5 : rs[i].x.1.toList = as'[i].1.toList := by simpa using heq
          rw [ByteArray.toList_eq, ByteArray.toList_eq] at h5
          exact bytes_eq h5
        have hc := hcan i hi
        rw [← hrt i hi hi2] at hc
        have hc1 := hc.1
        unfold can1 at hc1
        rw [if_pos (by show noName rs[i].x.1 = false; rw [hx]; exact hs)] at hc1
        have hl0 : rs[i].l = .nil := len_nil (by rw [← kids_len]; have := hc1.2; simp only [Kv.tn] at this; rw [this]; rfl)
        have e3 : rs[i].tn = ((s, 0), .nil) := by
          have : rs[i].x = (s, 0) := Prod.ext hx hc1.1
          unfold Kv.tn
          rw [this, hl0]
        rw [← e2, ← canonT_twice hOk (subG_right hgB (hA.rights _ (List.getElem_mem hi))), ← hrt i hi hi2, e3]
      · have heq' : (rs[i].x.1.toList == as'[i].1.toList) = false := by simpa using heq
        have hmem : (s, rs[i].tn) ∈ R.map bkBn := (hin _).2 (.inl ⟨i, hi, hi2, by rw [e1], heq'⟩)
        rw [getN_some (getB_mem hnC hmem), hrt i hi hi2, e2]
        exact canonT_twice hOk (subG_right hgB (by rw [← e2]; exact hA.rights _ (List.getElem_mem hi)))
    | none =>
      rw [getN_none ha]
      have e0 : subN (getN bs) ((s, 0), .nil) = getN bs s := by
        unfold subN
        rw [if_neg (by simp [hs])]
      rw [e0]
      have hlk : (lkB as' s).isNone = true := by rw [lk_get' hA.nodup, ha]; rfl
      cases hb : getB bs s with
      | some t =>
        have hmem : (s, t) ∈ R.map bkBn := (hin _).2 (.inr ⟨getB_some hb, hlk⟩)
        rw [getN_some (getB_mem hnC hmem), getN_some hb]
      | none =>
        have hno : getB (R.map bkBn) s = none := getB_none fun b hbm e => by
          rcases (hin b).1 hbm with ⟨j, h1, h2, rfl, h3⟩ | ⟨h, _⟩
          · have e' : as'[j].1 = s := e
            have := getB_mem (s := s) (t := as'[j].2) hA.nodup (by rw [← e']; exact List.getElem_mem h1)
            rw [ha] at this
            cases this
          · have := getB_mem (s := s) (t := b.2) hB.nodup (by rw [← e]; exact h)
            rw [hb] at this
            cases this
        rw [getN_none hno, getN_none hb]
/-- Of the variables of a term alone. -/
theorem getB_filter {ns : List ByteArray} {s : ByteArray} (hs : inL ns s = true) : ∀ l : List Bn, getB (l.filter (fun b => inL ns b.1)) s = getB l s
  | [] => rfl
  | b :: r => by
    have ih := getB_filter hs r
    unfold getB at ih ⊢
    by_cases e : b.1 = s
    · have hb : inL ns b.1 = true := by rw [e]; exact hs
      rw [List.filter_cons_of_pos (p := fun b : Bn => inL ns b.1) hb]
      simp [e]
    · by_cases hb : inL ns b.1 = true
      · rw [List.filter_cons_of_pos (p := fun b : Bn => inL ns b.1) hb, List.find?_cons_of_neg (by simpa using e), List.find?_cons_of_neg (by simpa using e)]
        exact ih
      · rw [List.filter_cons_of_neg (p := fun b : Bn => inL ns b.1) hb, List.find?_cons_of_neg (by simpa using e)]
        exact ih
theorem pinF_filter {ns : List ByteArray} (bs : List Bn) : ∀ F : Fo, (∀ s : ByteArray, s.data.toList ∈ namesFo F → inL ns s = true) → pinF (bs.filter (fun b => inL ns b.1)) F = pinF bs F
  | .nil, _ => rfl
  | .node B O x l r, h => by
    unfold pinF
    have h1 := pinF_filter bs l (fun s hs => h s (by simp only [namesFo, List.mem_append]; exact .inl (.inr hs)))
    have h2 := pinF_filter bs r (fun s hs => h s (by simp only [namesFo, List.mem_append]; exact .inr hs))
    rw [h1, h2]
    by_cases hx : noName x.1 = true
    · rw [if_pos hx, if_pos hx]
    · rw [if_neg hx, if_neg hx]
      have h3 : inL ns x.1 = true := h x.1 (by simp only [namesFo, List.mem_append, namesN]; rw [if_neg hx]; exact .inl (.inl (List.mem_singleton.2 rfl)))
      have h4 : getN (bs.filter (fun b => inL ns b.1)) x.1 = getN bs x.1 := by unfold getN; rw [getB_filter h3]
      rw [h4]
theorem pinN_filter {ns : List ByteArray} (bs : List Bn) (x : ByteArray × Int) (l : Fo) (h : ∀ s : ByteArray, s.data.toList ∈ namesN x ++ namesFo l → inL ns s = true) : pinN (bs.filter (fun b => inL ns b.1)) x l = pinN bs x l := by
  unfold pinN
  rw [pinF_filter bs l (fun s hs => h s (List.mem_append.2 (.inr hs)))]
  by_cases hx : noName x.1 = true
  · rw [if_pos hx, if_pos hx]
  · rw [if_neg hx, if_neg hx]
    have h3 : inL ns x.1 = true := h x.1 (List.mem_append.2 (.inl (by unfold namesN; rw [if_neg hx]; exact List.mem_singleton.2 rfl)))
    unfold getN
    rw [getB_filter h3]
theorem names_small {w : World} : ∀ {F : Fo} {b o : Nat}, KidsAt w F b o → ∀ nm ∈ namesFo F, nm.length ≤ maxLen
  | .nil, _, _, _, nm, h => by simp [namesFo] at h
  | .node _ _ x l r, b, o, ⟨⟨a, c, _, _, _, hs, hl⟩, hr⟩, nm, h => by
    simp only [namesFo, List.mem_append] at h
    rcases h with (h | h) | h
    · unfold namesN at h
      split at h
      · cases h
      · rw [List.mem_singleton.1 h]; exact hs.name
    · rcases hl with rfl | ⟨b', o', _, hk⟩
      · simp [namesFo] at h
      · exact names_small hk nm h
    · exact names_small hr nm h
theorem names_small_tm {w : World} {x : ByteArray × Int} {a : Option Addr} {c : Nat} {l : Fo} (h : TmAt w x a c l) : ∀ nm ∈ namesN x ++ namesFo l, nm.length ≤ maxLen := fun nm hn => by
  rcases List.mem_append.1 hn with hn | hn
  · unfold namesN at hn
    split at hn
    · cases hn
    · rw [List.mem_singleton.1 hn]; exact h.sizes.name
  · rcases h.args with rfl | ⟨b, o, _, hk⟩
    · simp [namesFo] at hn
    · exact names_small hk nm hn
/-- A row of names as texts in memory. -/
theorem strs_of {w : World} {B n : Nat} {v : Value} {l : List Nm} (h : w.ownsRow B 9 1 v n (l.map encStr)) (hs : ∀ nm ∈ l, nm.length ≤ maxLen) : ∃ a cap, v = .slice a (l.map (fun nm => (⟨nm.toArray⟩ : ByteArray))).length cap ∧ StrsAt w a (l.map (fun nm => (⟨nm.toArray⟩ : ByteArray))).length (l.map (fun nm => (⟨nm.toArray⟩ : ByteArray))) := by
  obtain ⟨a, cap, rfl, h1, h2, h3, _⟩ := texts_of_owns h
  have hn : n = (l.map (fun nm => (⟨nm.toArray⟩ : ByteArray))).length := by rw [List.length_map]; exact h3.len
  subst hn
  refine ⟨a, cap, rfl, rfl, by omega, fun i hi => ?_, fun s hsm => ?_⟩
  · obtain ⟨b, off, h4, h5⟩ := h3.cells i (by simpa using hi)
    exact ⟨b, off, h4, by simpa using h5⟩
  · obtain ⟨nm, hnm, rfl⟩ := List.mem_map.1 hsm
    have := hs nm hnm
    simpa [ByteArray.size] using this
theorem inL_names {l : List Nm} {s : ByteArray} (h : s.data.toList ∈ l) : inL (l.map (fun nm => (⟨nm.toArray⟩ : ByteArray))) s = true := by
  unfold inL
  refine List.any_eq_true.2 ⟨s, List.mem_map.2 ⟨s.data.toList, h, ?_⟩, by simp⟩
  obtain ⟨⟨d⟩⟩ := s
  rfl
end Go.Proofs.Ytgidgmgpgfonnaa
/- Plain: what SubstLaws asks of Apply. -/
namespace Go.Proofs.Ytgidgmgpgfonnaa
open Go.RowKit Go.Deep

theorem wt_mono {g k : ByteArray → Tn} (h : ∀ s, sizeT (g s) ≤ sizeT (k s)) : ∀ (n : Nat) (t : Tn), nodesF t.2 ≤ n → wtT g t ≤ wtT k t := by
  intro n
  induction n using Nat.strongRecOn with
  | _ n ih =>
    intro t hn
    by_cases hx : noName t.1.1 = true
    · rw [wt_node g hx, wt_node k hx]
      have : ∀ l : List Tn, (∀ c ∈ l, c ∈ kidsL t.2) → wts g l ≤ wts k l := fun l => by
        induction l with
        | nil => intro _; exact Nat.le_refl _
        | cons c r ihl =>
          intro hc
          rw [wts_cons, wts_cons]
          have h1 := kid_less (hc c (by simp))
          have h2 := ih (nodesF c.2) (by omega) c (Nat.le_refl _)
          have h3 := ihl (fun c' hc' => hc c' (by simp [hc']))
          omega
      have := this (kidsL t.2) (fun _ h => h)
      omega
    · unfold wtT subN
      rw [if_neg hx, if_neg hx]
      exact h _
theorem getN_nil (s : ByteArray) : getN [] s = ((s, 0), .nil) := rfl
theorem subF_id {S : Sg} {ar : Int → Nat} : ∀ F : Fo, RightF S ar F → subF (getN []) F = F
  | .nil, _ => rfl
  | .node B O x l r, h => by
    obtain ⟨⟨h1, h2⟩, h3⟩ := h
    unfold subF
    rw [subF_id l h2, subF_id r h3]
    by_cases hx : noName x.1 = true
    · rw [if_pos hx]
    · rw [if_neg hx]
      unfold nodeOk at h1
      rw [if_pos (by simpa using hx)] at h1
      have hl := len_nil h1.2
      subst hl
      have hx2 : x = (x.1, 0) := Prod.ext rfl h1.1
      rw [getN_nil]
      simp only
      rw [← hx2]
theorem sub_id {S : Sg} {ar : Int → Nat} {t : Tn} (h : RightT S ar t) : subN (getN []) t = t := by
  unfold subN
  by_cases hx : noName t.1.1 = true
  · rw [if_pos hx, subF_id t.2 h.2]
  · rw [if_neg hx]
    have h1 := h.1
    unfold nodeOk at h1
    rw [if_pos (by simpa using hx)] at h1
    have hl := len_nil h1.2
    obtain ⟨⟨s, i⟩, l⟩ := t
    dsimp only at hl h1
    rw [hl, h1.1]
    rfl
/-- Apply of binds with unlike names, right terms, to a right term: too great just if it is, else the canonical form. -/
theorem apply_right {sg : List Sym} {bs : List Bn} {x : ByteArray × Int} {l : Fo} {t : Tn} {e : Int} (hOk : (sgOf sg).Ok (arAt sg)) (hn : (bs.map (·.1)).Nodup) (hr : ∀ b ∈ bs, RightT (sgOf sg) (arAt sg) b.2) (ht : RightT (sgOf sg) (arAt sg) (x, l)) (h : (leftN (lkB bs) x l 400 < 0 ∧ t = zeroN ∧ e = 73) ∨ (0 ≤ leftN (lkB bs) x l 400 ∧ e = 0 ∧ CanR sg (putN (lkB bs) x l) t)) :
    (400 < sizeT (subN (getN bs) (x, l)) ∧ e = 73) ∨ (sizeT (subN (getN bs) (x, l)) ≤ 400 ∧ e = 0 ∧ t = canonT (sgOf sg) (subN (getN bs) (x, l))) := by
  have e1 : putN (lkB bs) x l = subN (getN bs) (x, l) := (putN_pin hn x l ht).trans (pinN_sub bs (x, l))
  have hi := leftN_iff (lkB bs) x l 400
  rw [e1] at hi
  have hs : sizeT (subN (getN bs) (x, l)) = nodesF (subN (getN bs) (x, l)).2 + 1 := rfl
  rcases h with ⟨h1, _, h3⟩ | ⟨h1, h2, h3⟩
  · refine .inl ⟨?_, h3⟩
    rcases Nat.lt_or_ge 400 (sizeT (subN (getN bs) (x, l))) with h4 | h4
    · exact h4
    · exact absurd (hi.2 (by omega)) (by omega)
  · refine .inr ⟨by have := hi.1 h1; omega, h2, ?_⟩
    rw [e1] at h3
    exact h3.2 hOk (subG_right (getN_rightG hr) ht)
end Go.Proofs.Ytgidgmgpgfonnaa
/- What both of the statements answers. -/
namespace Go.Proofs.Ytgidgmgpgfonnaa
open Go.RowKit Go.Deep

set_option maxRecDepth 100000 in
set_option maxHeartbeats 4000000 in
theorem both_any (q : Sm) (w : World) (hq : SmAt w q) (hz : SmSz q) : Calls Try.prog 22 #[.agg q.cells] w fun e w' => e = .returned (.bool ((checkE q.sg == 0) && (decide ((chkB q.sg q.ls none 0).1 = 0) && decide ((chkB q.sg q.bs none 0).1 = 0)))) ∧ Below w.heap.size w w' := by
  obtain ⟨S, n, cap, sg, pa, ca, ls, pb, cb, bs, ⟨x, l⟩, a, c, pn, cn, ns, f⟩ := q
  have hz1 := hz.all
  have HQ := hid hq
  dsimp only at hz1
  have hln := totB_len ls
  have hlb := totB_len bs
  have hnd : ∀ b ∈ ls, nodesF b.2.2 ≤ 1048576 := fun b hb => by have := totB_mem hb; omega
  have hnd2 : ∀ b ∈ bs, nodesF b.2.2 ≤ 1048576 := fun b hb => by have := totB_mem hb; omega
  have I0 : Hid (InS w (Sm.cells ⟨S, n, cap, sg, pa, ca, ls, pb, cb, bs, (x, l), a, c, pn, cn, ns, f⟩) (w.alloc (.cells (Sm.cells ⟨S, n, cap, sg, pa, ca, ls, pb, cb, bs, (x, l), a, c, pn, cn, ns, f⟩) 30))) := hid (InS.new w _)
  have HSR := hid fun (W : World) (hW : Below w.heap.size w W) => sright_any S n cap sg W (HQ.out.below hW).sig
  have HIA := hid fun (W : World) (hW : Below w.heap.size w W) => ris_any S n cap sg pa ca ls W (HQ.out.below hW).sig (HQ.out.below hW).ls (by omega) hnd
  have HIB := hid fun (W : World) (hW : Below w.heap.size w W) => ris_any S n cap sg pb cb bs W (HQ.out.below hW).sig (HQ.out.below hW).bs (by omega) hnd2
  unfold Sm.cells at I0 ⊢
  dsimp only at I0 ⊢
  obtain ⟨v1, hv1⟩ : ∃ v, (checkE sg == 0) = v := ⟨_, rfl⟩
  obtain ⟨v2, hv2⟩ : ∃ v, decide ((chkB sg ls none 0).1 = 0) = v := ⟨_, rfl⟩
  obtain ⟨v3, hv3⟩ : ∃ v, decide ((chkB sg bs none 0).1 = 0) = v := ⟨_, rfl⟩
  rw [hv1] at HSR
  rw [hv2] at HIA
  rw [hv3] at HIB
  rw [hv1, hv2, hv3]
  clear hz hq hnd hnd2 hz1 hln hlb HQ hv1 hv2 hv3
  have i0 := I0.out.box.c 0
  go_enter Try.func22, Try.ntmps22
  go_wp2_with fail
  refine (HSR.out _ I0.out.low).mono ?_
  rintro e w1 ⟨rfl, hb1⟩
  have I1 := hid (I0.out.below hb1)
  clear I0 hb1 i0 HSR
  cases v1 with
  | false =>
    go_wp2
    go_ret
    exact ⟨rfl, I1.out.low⟩
  | true =>
    have i0 := I1.out.box.c 0; have i1 := I1.out.box.c 1
    go_wp2_with fail
    refine (HIA.out _ I1.out.low).mono ?_
    rintro e w2 ⟨rfl, hb2⟩
    have I2 := hid (I1.out.below hb2)
    clear I1 hb2 i0 i1 HIA
    have i0 := I2.out.box.c 0; have i2 := I2.out.box.c 2
    go_wp2_with fail
    refine (HIB.out _ I2.out.low).mono ?_
    rintro e w3 ⟨rfl, hb3⟩
    have I3 := hid (I2.out.below hb3)
    clear I2 hb3 i0 i2 HIB
    cases v2 with
    | false =>
      go_wp2
      go_ret
      exact ⟨rfl, I3.out.low⟩
    | true =>
      go_wp2
      go_ret
      exact ⟨by cases v3 <;> rfl, I3.out.low⟩
end Go.Proofs.Ytgidgmgpgfonnaa
/- Lists of binds under way, as binds in memory. -/
namespace Go.Proofs.Ytgidgmgpgfonnaa
open Go.RowKit Go.Deep

theorem SepB.at_ {B : Nat} {W : World} {v : Value} {ks : List Bk} {F : List Bn} (h : SepB B W v ks) (hF : ks.map bkBn = F) (hf : ∀ x ∈ F, x.1.size ≤ maxLen) : ∃ P c, v = .slice P F.length c ∧ BindsAt W P F.length F := by
  have hl : F.length = ks.length := by rw [← hF, List.length_map]
  have hfk : ∀ k ∈ ks, k.1.size ≤ maxLen := fun k hk => hf (bkBn k) (by rw [← hF]; exact List.mem_map_of_mem hk)
  rcases h.slice with ⟨rfl, rfl⟩ | ⟨g, cap, rfl⟩
  · have : F = [] := by rw [← hF]; rfl
    subst this
    exact ⟨none, 0, rfl, rfl, by simp, fun i hi => absurd hi (by simp), fun x hx => by cases hx⟩
  · have := h.binds hfk
    rw [hF] at this
    rw [← hl] at this ⊢
    exact ⟨_, cap, rfl, this⟩
theorem LstB.at_ {mk : Bool} {B : Nat} {W : World} {v : Value} {ks : List Bk} {F : List Bn} (h : LstB mk B W v ks) (hF : ks.map bkBn = F) (hf : ∀ x ∈ F, x.1.size ≤ maxLen) : ∃ P c, v = .slice P F.length c ∧ BindsAt W P F.length F := by
  have hl : F.length = ks.length := by rw [← hF, List.length_map]
  rcases h.row.2 with ⟨h1, h2⟩ | ⟨g, cap, cur, h1, _⟩
  · subst h1
    have hk : ks = [] := List.eq_nil_of_length_eq_zero h2
    subst hk
    have : F = [] := by rw [← hF]; rfl
    subst this
    exact ⟨none, 0, rfl, rfl, by simp, fun i hi => absurd hi (by simp), fun x hx => by cases hx⟩
  · subst h1
    have hc := owns_cap h.row
    refine ⟨some ⟨g, 0, none⟩, cap, by rw [hl], rfl, by omega, fun i hi => ?_, hf⟩
    have hi' : i < ks.length := by omega
    refine ⟨g, 0, ks[i].2.a, ks[i].2.c, rfl, ?_⟩
    have h3 := row_bd h.row i hi' (h.own _ (List.getElem_mem hi')).tm
    have e : bkBn ks[i] = F[i] := by simp [← hF]
    rw [e] at h3
    exact h3
end Go.Proofs.Ytgidgmgpgfonnaa
/- The walk of SubstLaws. -/
namespace Go.Proofs.Ytgidgmgpgfonnaa
open Go.RowKit Go.Deep

abbrev Z27 : Obj := .cells #[.string ⟨#[]⟩, .int .i64 0, .slice none 0 0] 27
theorem blOver {w W : World} (h : Below w.heap.size w W) (o : Obj) : Below w.heap.size w (W.alloc o) := h.alloc h.size o
theorem z27 (W : World) : XBox (W.alloc Z27) W.heap.size (⟨#[]⟩, 0) (.slice none 0 0) := World.alloc_heap_new W _
set_option maxRecDepth 100000 in
set_option maxHeartbeats 16000000 in
theorem substLaws_walk (q : Sm) (w : World) (hq : SmAt w q) (hz : SmSz q) : Calls Try.prog 5 #[.agg q.cells] w fun e w' => e = .returned (.bool true) ∧ Below w.heap.size w w' := by
  have HBO := hid fun (W : World) (hW : Below w.heap.size w W) => both_any q W (hq.below hW) hz
  obtain ⟨S, n, cap, sg, pa, ca, ls, pb, cb, bs, ⟨x, l⟩, a, c, pn, cn, ns, f⟩ := q
  have hz1 := hz.all
  have HQ := hid hq
  dsimp only at hz1
  have hln := totB_len ls
  have hlb := totB_len bs
  have I0 : Hid (InS w (Sm.cells ⟨S, n, cap, sg, pa, ca, ls, pb, cb, bs, (x, l), a, c, pn, cn, ns, f⟩) (w.alloc (.cells (Sm.cells ⟨S, n, cap, sg, pa, ca, ls, pb, cb, bs, (x, l), a, c, pn, cn, ns, f⟩) 30))) := hid (InS.new w _)
  have HSG := hid fun (W : World) (hW : Below w.heap.size w W) => (HQ.out.below hW).sig
  have HLS := hid fun (W : World) (hW : Below w.heap.size w W) => (HQ.out.below hW).ls
  have HBS := hid fun (W : World) (hW : Below w.heap.size w W) => (HQ.out.below hW).bs
  have HTM := hid fun (W : World) (hW : Below w.heap.size w W) => (HQ.out.below hW).tm
  dsimp only at HSG HLS HBS HTM
  unfold Sm.cells at I0 HBO ⊢
  dsimp only at I0 HBO ⊢
  have hl1 : ls.length ≤ 1000000 := by omega
  have hl2 : bs.length ≤ 1000000 := by omega
  have hl3 : ls.length + bs.length ≤ 1048576 := by omega
  have hnl : nodesF l ≤ 1048572 := by omega
  obtain ⟨bv, hbv⟩ : ∃ bv, ((checkE sg == 0) && (decide ((chkB sg ls none 0).1 = 0) && decide ((chkB sg bs none 0).1 = 0))) = bv := ⟨_, rfl⟩
  rw [hbv] at HBO
  have HBV := hid hbv
  clear hz hq hz1 hln hlb HQ hbv
  go_enter Try.func5, Try.ntmps5
  go_wp2_with fail
  refine (shead_any _).mono ?_
  rintro e w1 ⟨rfl, hb1⟩
  have I1 := hid (I0.out.below hb1)
  clear I0 hb1
  have i0 := I1.out.box.c 0; have i1 := I1.out.box.c 1; have i2 := I1.out.box.c 2; have i3 := I1.out.box.c 3; have i4 := I1.out.box.c 4; have i5 := I1.out.box.c 5; have i6 := I1.out.box.c 6; have i7 := I1.out.box.c 7
  go_wp2_with fail
  refine (HBO.out w1 I1.out.low).mono ?_
  rintro e w2 ⟨rfl, hb2⟩
  have I2 := hid (I1.out.below hb2)
  clear I1 hb2 i0 i1 i2 i3 i4 i5 i6 i7 HBO
  have i0 := I2.out.box.c 0; have i3 := I2.out.box.c 3; have i4 := I2.out.box.c 4; have i5 := I2.out.box.c 5
  go_wp2_with fail
  refine (rright_any S n cap sg (x, l) a c w2 (HSG.out w2 I2.out.low) (HTM.out w2 I2.out.low)).mono ?_
  rintro e w3 ⟨rfl, hb3⟩
  have I3 := hid (I2.out.below hb3)
  clear I2 hb3 i0 i3 i4 i5
  cases bv with
  | false =>
    go_wp2
    go_ret
    exact ⟨rfl, I3.out.low⟩
  | true =>
  cases hrt : rightB sg (x, l) with
  | false =>
    go_wp2
    go_ret
    exact ⟨rfl, I3.out.low⟩
  | true =>
  obtain ⟨hOk, hRT⟩ := right_facts hrt
  have hbb := HBV.out
  simp only [Bool.and_eq_true, decide_eq_true_eq] at hbb
  have hSA := (chk_ok ls none 0 hbb.2.1).1
  have hSB := (chk_ok bs none 0 hbb.2.2).1
  have OK := hid hOk; have RT := hid hRT; have SA := hid hSA; have SB := hid hSB
  clear hrt hOk hRT hbb hSA hSB HBV
  have i0 := I3.out.box.c 0; have i1 := I3.out.box.c 1; have i3 := I3.out.box.c 3; have i4 := I3.out.box.c 4; have i5 := I3.out.box.c 5
  go_wp2_with fail
  refine (papply_any S n cap sg pa ca ls x l a c w3 (HSG.out w3 I3.out.low) (HLS.out w3 I3.out.low) (by omega) (HTM.out w3 I3.out.low)).mono ?_
  intro e w4 hend
  obtain ⟨k1, e1, rfl, hb4, hE4, hr4⟩ := hend.form2
  have bx := alloc_below0 w4 (.cells #[.string k1.x.1, .int .i64 k1.x.2, .slice k1.a (lenF k1.l) k1.c] 27)
  have I4 := hid ((I3.out.below hb4).below bx)
  have T1 := hid ((SepTm.tm hE4.1).below bx)
  have X1 : Hid (XBox (w4.alloc (.cells #[.string k1.x.1, .int .i64 k1.x.2, .slice k1.a (lenF k1.l) k1.c] 27)) w4.heap.size k1.x (.slice k1.a (lenF k1.l) k1.c)) := hid (World.alloc_heap_new w4 _)
  have R1 := hid (apply_right OK.out SA.out.nodup SA.out.rights RT.out hr4)
  clear hend hb4 hE4 hr4 bx i0 i1 i3 i4 i5 I3
  have i0 := I4.out.box.c 0; have i2 := I4.out.box.c 2
  have x0 := X1.out.c0; have x1 := X1.out.c1; have x2 := X1.out.c2
  go_wp2_with fail
  clear i0 i2 x0 x1 x2
  generalize w4.alloc (.cells #[.string k1.x.1, .int .i64 k1.x.2, .slice k1.a (lenF k1.l) k1.c] 27) = W4 at I4 T1 X1 ⊢
  generalize w4.heap.size = g1 at X1 ⊢
  refine (papply_any S n cap sg pb cb bs k1.x k1.l k1.a k1.c W4 (HSG.out W4 I4.out.low) (HBS.out W4 I4.out.low) (by omega) T1.out).mono ?_
  intro e w5 hend
  obtain ⟨k2, e2, rfl, hb5, hE5, hr5⟩ := hend.form2
  have bx := alloc_below0 w5 (.cells #[.string k2.x.1, .int .i64 k2.x.2, .slice k2.a (lenF k2.l) k2.c] 27)
  have B5 := hid (hb5.trans (bx.mono hb5.size))
  have T2 := hid ((SepTm.tm hE5.1).below bx)
  have X2 : Hid (XBox (w5.alloc (.cells #[.string k2.x.1, .int .i64 k2.x.2, .slice k2.a (lenF k2.l) k2.c] 27)) w5.heap.size k2.x (.slice k2.a (lenF k2.l) k2.c)) := hid (World.alloc_heap_new w5 _)
  have R2 := hid hr5
  clear hend hb5 hE5 hr5 bx
  have i0 := (I4.out.below B5.out).box.c 0; have i1 := (I4.out.below B5.out).box.c 1; have i2 := (I4.out.below B5.out).box.c 2
  go_wp2_with fail
  clear i0 i1 i2
  generalize w5.alloc (.cells #[.string k2.x.1, .int .i64 k2.x.2, .slice k2.a (lenF k2.l) k2.c] 27) = W5 at B5 T2 X2 ⊢
  generalize w5.heap.size = g2 at X2 ⊢
  refine (pcompose_any S n cap sg pa ca ls pb cb bs W5 (HSG.out W5 (I4.out.below B5.out).low) (HLS.out W5 (I4.out.below B5.out).low) (HBS.out W5 (I4.out.below B5.out).low) hl1 hl2 hl3).mono ?_
  rintro e w6 ⟨hb6, hcomp⟩
  have hform : ∃ (P : Option Addr) (cc : Nat) (C : List Bn) (ec : Int), e = .returned (.tuple #[.slice P C.length cc, .int .i64 ec]) ∧ BindsAt w6 P C.length C ∧ C.length ≤ 1048576 ∧ (ec = 0 → CompOk sg ls bs C) ∧ (ec = 0 ∨ ec = 73) := by
    rcases hcomp with ⟨rfl, _⟩ | ⟨_, v, ks, ms, R, rs, rfl, h1, h2, h3, h4, _, h6, h7⟩
    · exact ⟨none, 0, [], 73, rfl, ⟨rfl, by simp, fun i hi => absurd hi (by simp), fun x hx => by cases hx⟩, by simp, fun h => (by cases h), .inr rfl⟩
    · have hok := comp_ok OK.out SA.out SB.out h1 h2 h3 h4 h6.1
      have hlen : R.length ≤ 1048576 := by
        rw [← h6.1.length_eq, List.length_append, h3]
        have g1 := comp1_len ls rs
        have g2 := congrArg List.length h4
        rw [List.length_map] at g2
        have g3 := List.length_filter_le (fun b : Bn => (lkB ls b.1).isNone) bs
        omega
      have hfit : ∀ b ∈ R.map bkBn, b.1.size ≤ maxLen := fun b hb => by
        obtain ⟨k, hk, rfl⟩ := List.mem_map.1 hb
        have hk2 : k ∈ ks ++ ms := h6.1.mem_iff.2 hk
        rcases List.mem_append.1 hk2 with hk2 | hk2
        · rw [h3] at hk2
          obtain ⟨i, g1, g2, rfl, _⟩ := comp1_mem hk2
          exact (HLS.out w (Below.refl _ _)).fits ls[i] (List.getElem_mem g1)
        · have hm : bkBn k ∈ bs.filter (fun b => (lkB ls b.1).isNone) := by rw [← h4]; exact List.mem_map_of_mem hk2
          exact (HBS.out w (Below.refl _ _)).fits _ (List.mem_filter.1 hm).1
      obtain ⟨P, cc, rfl, hB⟩ := h7.at_ rfl hfit
      exact ⟨P, cc, R.map bkBn, 0, rfl, hB, by rw [List.length_map]; exact hlen, fun _ => hok, .inl rfl⟩
  obtain ⟨Pc, cc, C, ec, rfl, hBC, hlC, hokC, hec⟩ := hform
  have B6 := hid (B5.out.trans (hb6.mono B5.out.size))
  have BC := hid hBC; have OKC := hid hokC; have EC := hid hec
  have X2' := hid (X2.out.below hb6); have T2' := hid (T2.out.below hb6)
  clear hb6 hcomp hBC hokC hec X2 T2 B5
  have i0 := (I4.out.below B6.out).box.c 0; have i3 := (I4.out.below B6.out).box.c 3; have i4 := (I4.out.below B6.out).box.c 4; have i5 := (I4.out.below B6.out).box.c 5
  go_wp2_with fail
  refine (papply_any S n cap sg Pc cc C x l a c w6 (HSG.out w6 (I4.out.below B6.out).low) BC.out hlC (HTM.out w6 (I4.out.below B6.out).low)).mono ?_
  intro e w7 hend
  obtain ⟨k3, e3, rfl, hb7, hE7, hr7⟩ := hend.form2
  have bx := alloc_below0 w7 (.cells #[.string k3.x.1, .int .i64 k3.x.2, .slice k3.a (lenF k3.l) k3.c] 27)
  have B7 := hid (B6.out.trans ((hb7.trans (bx.mono hb7.size)).mono B6.out.size))
  have T3 := hid ((SepTm.tm hE7.1).below bx)
  have X3 : Hid (XBox (w7.alloc (.cells #[.string k3.x.1, .int .i64 k3.x.2, .slice k3.a (lenF k3.l) k3.c] 27)) w7.heap.size k3.x (.slice k3.a (lenF k3.l) k3.c)) := hid (World.alloc_heap_new w7 _)
  have T2'' := hid ((T2'.out.below hb7).below bx); have X2'' := hid ((X2'.out.below hb7).below bx)
  have R3 := hid hr7
  clear hend hb7 hE7 hr7 bx i0 i3 i4 i5 T2' X2' B6
  go_upto_region 10 with fail
  generalize w7.alloc (.cells #[.string k3.x.1, .int .i64 k3.x.2, .slice k3.a (lenF k3.l) k3.c] 27) = W7 at B7 T3 X3 T2'' X2'' ⊢
  generalize w7.heap.size = g3 at X3 ⊢
  rcases R1.out with ⟨_, rfl⟩ | ⟨hs1, rfl, ht1⟩
  · go_wp2_with fail
    go_ret
    exact ⟨rfl, (I4.out.below B7.out).low⟩
  have HS1 := hid hs1; have HT1 := hid ht1
  clear hs1 ht1
  go_cut [97] (fun v wc => v = .bool false ∧ Below W7.heap.size W7 wc)
  case first =>
    by_cases he2 : e2 = 0
    · by_cases he3 : ec = 0
      · by_cases he4 : e3 = 0
        · have hRx : RightT (sgOf sg) (arAt sg) (k1.x, k1.l) := by
            have : (k1.x, k1.l) = canonT (sgOf sg) (subN (getN ls) (x, l)) := HT1.out
            rw [this]
            exact right_of_can (canonT_can OK.out (subG_right (getN_rightG SA.out.rights) RT.out))
          have h2 : k2.tn = canonT (sgOf sg) (subN (getN bs) (canonT (sgOf sg) (subN (getN ls) (x, l)))) := by
            rcases apply_right OK.out SB.out.nodup SB.out.rights hRx R2.out with ⟨_, h⟩ | ⟨_, _, h⟩
            · rw [he2] at h; cases h
            · rw [h]; rw [show (k1.x, k1.l) = canonT (sgOf sg) (subN (getN ls) (x, l)) from HT1.out]
          have hC := OKC.out he3
          have h3 : k3.tn = canonT (sgOf sg) (subN (getN C) (x, l)) := by
            rcases apply_right OK.out hC.nodup hC.right RT.out R3.out with ⟨_, h⟩ | ⟨_, _, h⟩
            · rw [he4] at h; cases h
            · exact h
          have h4 : k2.tn = k3.tn := by rw [h2, h3]; exact sub_comp OK.out (getN_rightG SA.out.rights) (getN_rightG SB.out.rights) hC.get RT.out
          have HX := hid (rexact_any k2.tn k3.tn k2.a k3.a k2.c k3.c W7 T2''.out T3.out)
          have H4 := hid h4
          have y0 := X2''.out.c0; have y1 := X2''.out.c1; have y2 := X2''.out.c2
          have z0 := X3.out.c0; have z1 := X3.out.c1; have z2 := X3.out.c2
          subst he2 he3 he4
          clear h2 h3 h4 hC hRx
          go_wp2_with fail
          refine HX.out.mono ?_
          rintro e w8 ⟨he, hb8⟩
          have he' : e = .returned (.bool true) := by rw [he, H4.out, exN_self]
          subst he'
          have B8 := hid hb8
          clear he hb8 y0 y1 y2 z0 z1 z2
          go_wp2_with fail
          go_meet
          exact ⟨rfl, B8.out⟩
        · have he5 : e3 = 73 := by
            rcases R3.out with ⟨_, _, h⟩ | ⟨_, h, _⟩
            · exact h
            · exact absurd h he4
          subst he2 he3 he5
          clear he4
          go_wp2_with fail
          go_meet
          exact ⟨rfl, Below.refl _ _⟩
      · have he5 : ec = 73 := EC.out.resolve_left he3
        subst he2 he5
        clear he3
        go_wp2_with fail
        go_meet
        exact ⟨rfl, Below.refl _ _⟩
    · have he5 : e2 = 73 := by
        rcases R2.out with ⟨_, _, h⟩ | ⟨_, h, _⟩
        · exact h
        · exact absurd h he2
      subst he5
      clear he2
      go_wp2_with fail
      go_meet
      exact ⟨rfl, Below.refl _ _⟩
  case rest =>
  obtain ⟨rfl, hb8⟩ := hcut
  rename World => w8
  have I8 := hid ((I4.out.below B7.out).below hb8)
  have X8 := hid ((X1.out.below B7.out).below hb8); have T8 := hid ((T1.out.below B7.out).below hb8)
  clear hb8 B7 I4 X1 T1 T2'' X2'' T3 X3 R1 R2 R3 OKC EC BC hlC
  obtain ⟨XT, hXT⟩ : ∃ XT, canonT (sgOf sg) (subN (getN ls) (x, l)) = XT := ⟨_, rfl⟩
  obtain ⟨CT, hCT⟩ : ∃ CT, canonT (sgOf sg) (x, l) = CT := ⟨_, rfl⟩
  have hkx : k1.tn = XT := by rw [HT1.out, hXT]
  have hRC : RightT (sgOf sg) (arAt sg) CT := by rw [← hCT]; exact right_of_can (canonT_can OK.out RT.out)
  have hgA := getN_rightG SA.out.rights
  have f4 : sizeT (subN (getN ls) CT) ≤ 400 ∧ canonT (sgOf sg) (subN (getN ls) CT) = XT := by
    rw [← hCT]
    exact ⟨Nat.le_trans (canon_wt _ _ _) HS1.out, by rw [sub_canon OK.out hgA RT.out, hXT]⟩
  have f6 : sizeT (subN (getN []) CT) ≤ 400 ∧ canonT (sgOf sg) (subN (getN []) CT) = CT := by
    refine ⟨?_, ?_⟩
    · rw [← hCT]
      refine Nat.le_trans (canon_wt _ _ _) (Nat.le_trans ?_ HS1.out)
      exact wt_mono (fun s => by show sizeT ((s, 0), .nil) ≤ _; unfold sizeT; simp [nodesF]) _ (x, l) (Nat.le_refl _)
    · rw [sub_id hRC, ← hCT, canonT_twice OK.out RT.out]
  have HA4 : Hid (∀ W ta tc, Below w.heap.size w W → TmAt W CT.1 ta tc CT.2 → Calls Try.prog 9 #[.slice S n cap, .slice pa ls.length ca, .agg #[.string CT.1.1, .int .i64 CT.1.2, .slice ta (lenF CT.2) tc]] W fun e w' => ∃ k : Kv, e = .returned (.tuple #[.agg #[.string k.x.1, .int .i64 k.x.2, .slice k.a (lenF k.l) k.c], .int .i64 0]) ∧ k.tn = XT ∧ SepTm w' (fun q => W.heap.size ≤ q) k.x k.a k.c k.l ∧ Below W.heap.size W w') := hid fun W ta tc hW hT => by
    refine (papply_any S n cap sg pa ca ls CT.1 CT.2 ta tc W (HSG.out W hW) (HLS.out W hW) (by omega) hT).mono ?_
    intro e w' hend
    obtain ⟨k, er, rfl, hb, hE, hr⟩ := hend.form2
    rcases apply_right OK.out SA.out.nodup SA.out.rights hRC hr with ⟨h, _⟩ | ⟨_, rfl, h⟩
    · exact absurd f4.1 (by have h' : 400 < sizeT (subN (getN ls) CT) := h; omega)
    · exact ⟨k, rfl, h.trans f4.2, hE.1, hb⟩
  have HA6 : Hid (∀ W ta tc, Below w.heap.size w W → TmAt W CT.1 ta tc CT.2 → Calls Try.prog 9 #[.slice S n cap, .slice none 0 0, .agg #[.string CT.1.1, .int .i64 CT.1.2, .slice ta (lenF CT.2) tc]] W fun e w' => ∃ k : Kv, e = .returned (.tuple #[.agg #[.string k.x.1, .int .i64 k.x.2, .slice k.a (lenF k.l) k.c], .int .i64 0]) ∧ k.tn = CT ∧ SepTm w' (fun q => W.heap.size ≤ q) k.x k.a k.c k.l ∧ Below W.heap.size W w') := hid fun W ta tc hW hT => by
    refine (papply_any S n cap sg none 0 [] CT.1 CT.2 ta tc W (HSG.out W hW) ⟨rfl, by simp, fun i hi => absurd hi (by simp), fun x hx => by cases hx⟩ (by simp) hT).mono ?_
    intro e w' hend
    obtain ⟨k, er, rfl, hb, hE, hr⟩ := hend.form2
    rcases apply_right OK.out (by simp) (fun b hb => by cases hb) hRC hr with ⟨h, _⟩ | ⟨_, rfl, h⟩
    · exact absurd f6.1 (by have h' : 400 < sizeT (subN (getN []) CT) := h; omega)
    · exact ⟨k, rfl, h.trans f6.2, hE.1, hb⟩
  obtain ⟨nms, hnms⟩ : ∃ nms, Lib.compact (sortL (namesN x ++ namesFo l)) = nms := ⟨_, rfl⟩
  have hmn : ∀ s : ByteArray, s.data.toList ∈ namesN x ++ namesFo l → inL (nms.map (fun nm => (⟨nm.toArray⟩ : ByteArray))) s = true := fun s hs => inL_names (by rw [← hnms]; exact ((vars_ss _).2 _).2 hs)
  have hms : ∀ nm ∈ nms, nm.length ≤ maxLen := fun nm h => names_small_tm (HTM.out w (Below.refl _ _)) nm (((vars_ss _).2 _).1 (by rw [hnms]; exact h))
  have hml : nms.length ≤ 1048576 := by
    have h1 : nms.length ≤ (namesN x ++ namesFo l).length := by
      rw [← hnms]
      exact List.Nodup.length_le_of_subset ((vars_ss _).1.imp (fun {a b} h e => by rw [e] at h; exact ltN_irrefl _ h)) (fun nm h => ((vars_ss _).2 nm).1 h)
    rw [List.length_append] at h1
    have := namesN_len x
    have := namesFo_len l
    omega
  obtain ⟨vs, hvs⟩ : ∃ vs, nms.map (fun nm => (⟨nm.toArray⟩ : ByteArray)) = vs := ⟨_, rfl⟩
  have hvl : vs.length ≤ 1048576 := by rw [← hvs, List.length_map]; exact hml
  have HV25 : Hid (∀ W, Below w.heap.size w W → Calls Try.prog 25 #[.agg #[.string x.1, .int .i64 x.2, .slice a (lenF l) c]] W fun e w' => ∃ Pv cv, e = .returned (.slice Pv vs.length cv) ∧ StrsAt w' Pv vs.length vs ∧ Below W.heap.size W w') := hid fun W hW => by
    refine (rvars_any x l a c W (HTM.out W hW) (by omega)).mono ?_
    rintro e w' ⟨v, rfl, hr, hb⟩
    rw [hnms] at hr
    obtain ⟨Pv, cv, h1, h2⟩ := strs_of hr hms
    rw [hvs] at h1 h2
    exact ⟨Pv, cv, by rw [h1], h2, hb⟩
  obtain ⟨F, hF⟩ : ∃ F, ls.filter (fun b => inL vs b.1) = F := ⟨_, rfl⟩
  have hFl : F.length ≤ 1048576 := by rw [← hF]; have := List.length_filter_le (fun b : Bn => inL vs b.1) ls; omega
  have HV17 : Hid (∀ W Pv cv, Below w.heap.size w W → StrsAt W Pv vs.length vs → Calls Try.prog 17 #[.slice pa ls.length ca, .slice Pv vs.length cv] W fun e w' => ∃ Pr cr, e = .returned (.slice Pr F.length cr) ∧ BindsAt w' Pr F.length F ∧ Below W.heap.size W w') := hid fun W Pv cv hW hN => by
    refine (restrict_any pa ca ls Pv cv vs W (HLS.out W hW) hN (by omega) hvl).mono ?_
    rintro e w' ⟨v, ks, rfl, h1, h2, h3⟩
    rw [hF] at h2
    obtain ⟨Pr, cr, h4, h5⟩ := h1.at_ h2 (fun b hb => (HLS.out w (Below.refl _ _)).fits b (by rw [← hF] at hb; exact (List.mem_filter.1 hb).1))
    exact ⟨Pr, cr, by rw [h4], h5, h3⟩
  have HV9 : Hid (∀ W Pr cr, Below w.heap.size w W → BindsAt W Pr F.length F → Calls Try.prog 9 #[.slice S n cap, .slice Pr F.length cr, .agg #[.string x.1, .int .i64 x.2, .slice a (lenF l) c]] W fun e w' => ∃ k : Kv, e = .returned (.tuple #[.agg #[.string k.x.1, .int .i64 k.x.2, .slice k.a (lenF k.l) k.c], .int .i64 0]) ∧ k.tn = XT ∧ SepTm w' (fun q => W.heap.size ≤ q) k.x k.a k.c k.l ∧ Below W.heap.size W w') := hid fun W Pr cr hW hB => by
    refine (papply_any S n cap sg Pr cr F x l a c W (HSG.out W hW) hB hFl (HTM.out W hW)).mono ?_
    intro e w' hend
    obtain ⟨k, er, rfl, hb, hE, hr⟩ := hend.form2
    have e0 : subN (getN F) (x, l) = subN (getN ls) (x, l) := by
      rw [← pinN_sub, ← pinN_sub, ← hF]
      refine pinN_filter ls x l (fun s hs => ?_)
      rw [← hvs]
      exact hmn s hs
    have hnF : (F.map (·.1)).Nodup := by rw [← hF]; exact SA.out.nodup.sublist (List.Sublist.map _ List.filter_sublist)
    have hrF : ∀ b ∈ F, RightT (sgOf sg) (arAt sg) b.2 := fun b hb => SA.out.rights b (by rw [← hF] at hb; exact (List.mem_filter.1 hb).1)
    rcases apply_right OK.out hnF hrF RT.out hr with ⟨h, _⟩ | ⟨_, rfl, h⟩
    · rw [e0] at h; exact absurd HS1.out (by omega)
    · rw [e0, hXT] at h; exact ⟨k, rfl, h, hE.1, hb⟩
  have HKX := hid hkx
  clear hkx hRC hgA f4 f6 hmn hms hml hvl hFl hF hvs hnms hXT
  have HCC := hid fun (W : World) (hW : Below w.heap.size w W) => canon_all S n cap sg 1048576 (Nat.le_refl _) (x, l) a c W (by show nodesF l ≤ _; omega) (HSG.out W hW) (HTM.out W hW)
  rw [hCT] at HCC
  clear hCT
  have i0 := I8.out.box.c 0; have i3 := I8.out.box.c 3; have i4 := I8.out.box.c 4; have i5 := I8.out.box.c 5
  go_wp2_with fail
  refine (HCC.out w8 I8.out.low).mono ?_
  rintro e w9 ⟨a9, c9, rfl, hO9, hb9⟩
  have bx := alloc_below0 w9 (.cells #[.string CT.1.1, .int .i64 CT.1.2, .slice a9 (lenF CT.2) c9] 27)
  have I9 := hid ((I8.out.below hb9).below bx)
  have X9 := hid ((X8.out.below hb9).below bx); have T9 := hid ((T8.out.below hb9).below bx)
  have C9 := hid (hO9.tm.below bx)
  have Y9 : Hid (XBox (w9.alloc (.cells #[.string CT.1.1, .int .i64 CT.1.2, .slice a9 (lenF CT.2) c9] 27)) w9.heap.size CT.1 (.slice a9 (lenF CT.2) c9)) := hid (World.alloc_heap_new w9 _)
  clear hO9 hb9 bx i0 i3 i4 i5 I8 X8 T8
  have i0 := I9.out.box.c 0; have i1 := I9.out.box.c 1
  have y0 := Y9.out.c0; have y1 := Y9.out.c1; have y2 := Y9.out.c2
  go_wp2_with fail
  clear i0 i1 y0 y1 y2
  generalize w9.alloc (.cells #[.string CT.1.1, .int .i64 CT.1.2, .slice a9 (lenF CT.2) c9] 27) = W9 at I9 X9 T9 C9 Y9 ⊢
  generalize w9.heap.size = g9 at Y9 ⊢
  refine (HA4.out W9 a9 c9 I9.out.low C9.out).mono ?_
  rintro e w10 ⟨k4, rfl, hk4, hE10, hb10⟩
  have bx := alloc_below0 w10 (.cells #[.string k4.x.1, .int .i64 k4.x.2, .slice k4.a (lenF k4.l) k4.c] 27)
  have B10 := hid (hb10.trans (bx.mono hb10.size))
  have K4 := hid hk4
  have T4 := hid ((SepTm.tm hE10).below bx)
  have X4 : Hid (XBox (w10.alloc (.cells #[.string k4.x.1, .int .i64 k4.x.2, .slice k4.a (lenF k4.l) k4.c] 27)) w10.heap.size k4.x (.slice k4.a (lenF k4.l) k4.c)) := hid (World.alloc_heap_new w10 _)
  clear hk4 hE10 hb10 bx
  go_upto_region 16 with fail
  generalize w10.alloc (.cells #[.string k4.x.1, .int .i64 k4.x.2, .slice k4.a (lenF k4.l) k4.c] 27) = V at B10 T4 X4 ⊢
  generalize w10.heap.size = g4 at X4 ⊢
  have IV := hid (I9.out.below B10.out)
  have i0 := IV.out.box.c 0; have i1 := IV.out.box.c 1; have i3 := IV.out.box.c 3; have i4 := IV.out.box.c 4; have i5 := IV.out.box.c 5
  have Q0 : Hid (V.cell? ⟨w.heap.size, 0, none⟩ = some (.slice S n cap)) := hid i0
  have Q1 : Hid (V.cell? ⟨w.heap.size, 1, none⟩ = some (.slice pa ls.length ca)) := hid i1
  have Q3 : Hid (V.cell? ⟨w.heap.size, 3, none⟩ = some (.string x.1)) := hid i3
  have Q4 : Hid (V.cell? ⟨w.heap.size, 4, none⟩ = some (.int .i64 x.2)) := hid i4
  have Q5 : Hid (V.cell? ⟨w.heap.size, 5, none⟩ = some (.slice a (lenF l) c)) := hid i5
  have HL := hid IV.out.low
  clear i0 i1 i3 i4 i5
  go_cut [17, 18] (fun p e wc => ∃ (g : Nat) (k : Kv), p = .pointer (some ⟨g, 0, none⟩) ∧ e = .int .i64 0 ∧ XBox wc g k.x (.slice k.a (lenF k.l) k.c) ∧ TmAt wc k.x k.a k.c k.l ∧ k.tn = XT ∧ Below V.heap.size V wc)
  case first =>
    have hbz : Below w.heap.size w V := HL.out
    have hlz := HL.out.size
    go_region_held3 (fun w' => w'.cell? ⟨w.heap.size, 0, none⟩ = some (.slice S n cap) ∧ w'.cell? ⟨w.heap.size, 1, none⟩ = some (.slice pa ls.length ca) ∧ w'.cell? ⟨w.heap.size, 3, none⟩ = some (.string x.1) ∧ w'.cell? ⟨w.heap.size, 4, none⟩ = some (.int .i64 x.2) ∧ w'.cell? ⟨w.heap.size, 5, none⟩ = some (.slice a (lenF l) c)) ((first
      | (refine ⟨?_, ?_, ?_, ?_, ?_⟩ <;> (with_reducible refine below_cell (w := V) ?_ _ _ ?_; (solve | (repeat' first | (with_reducible exact Below.refl _ V) | (with_reducible exact HB3.out) | (with_reducible exact HB2.out) | (with_reducible exact HB1.out) | (with_reducible refine Below.drew ?_) | (with_reducible refine blOver ?_ _) | (with_reducible refine sets_below ?_ (Nat.le_refl _) _ _ _) | (with_reducible refine sets_below ?_ HB1.out.size _ _ _) | (with_reducible refine sets_below ?_ HB2.out.size _ _ _))); first | exact Q0.out | exact Q1.out | exact Q3.out | exact Q4.out | exact Q5.out))
      | fail)) ((first
      | (go_at_call 25; refine Calls.mono (HV25.out _ ?_) ?_; (first | exact HL.out.drew | exact (blOver HL.out _).drew); rintro e w5 ⟨Pv, cv, rfl, hv5, hb5⟩; have HV5 := hid hv5; first
          | (have HB1 : Hid (Below V.heap.size V w5) := hid (((Below.refl _ V).drew).trans hb5); clear hv5 hb5)
          | (have HB1 : Hid (Below V.heap.size V w5) := hid (((alloc_below0 V Z27).drew).trans (hb5.mono (show V.heap.size ≤ (V.alloc Z27).heap.size from Nat.le_trans (Nat.le_succ _) (Nat.le_of_eq (World.size_alloc _ _).symm)))); have HY1 : Hid (XBox w5 V.heap.size (⟨#[]⟩, 0) (.slice none 0 0)) := hid (XBox.below (W := World.drew (World.alloc V Z27)) (z27 V) hb5); clear hv5 hb5))
      | (go_at_call 17; refine Calls.mono (HV17.out _ Pv cv ?_ ?_) ?_; (first | exact HL.out.trans (HB1.out.mono HL.out.size) | exact blOver (HL.out.trans (HB1.out.mono HL.out.size)) _); (first | exact HV5.out | exact HV5.out.below (alloc_below0 w5 _)); rintro e w6 ⟨Pr, cr, rfl, hr6, hb6⟩; have HR6 := hid hr6; first
          | (have HB2 : Hid (Below V.heap.size V w6) := hid (HB1.out.trans (hb6.mono HB1.out.size)); first | (have HY2 : Hid (XBox w6 V.heap.size (⟨#[]⟩, 0) (.slice none 0 0)) := hid (HY1.out.below hb6); clear hr6 hb6) | (clear hr6 hb6))
          | (have HB2 : Hid (Below V.heap.size V w6) := hid ((blOver HB1.out Z27).trans (hb6.mono (blOver HB1.out Z27).size)); have HY2 : Hid (XBox w6 w5.heap.size (⟨#[]⟩, 0) (.slice none 0 0)) := hid (XBox.below (W := World.alloc w5 Z27) (z27 w5) hb6); clear hr6 hb6))
      | (go_at_call 9; refine Calls.mono (HV9.out _ Pr cr ?_ ?_) ?_; (first | exact HL.out.trans (HB2.out.mono HL.out.size) | exact blOver (HL.out.trans (HB2.out.mono HL.out.size)) _); (first | exact HR6.out | exact HR6.out.below (alloc_below0 w6 _)); rintro e w7 ⟨k5, rfl, hk5, hs7, hb7⟩; have K5 := hid hk5; first
          | (have HB3 : Hid (Below V.heap.size V w7) := hid (HB2.out.trans (hb7.mono HB2.out.size)); have HS7 := hid hs7; first | (have HY3 := hid (HY2.out.below hb7); have HLT := hid HY2.out.lt; have y0 := HY3.out.c0; have y1 := HY3.out.c1; have y2 := HY3.out.c2; have z0 := HY3.out.f (k := 0); have z1 := HY3.out.f (k := 1); have z2 := HY3.out.f (k := 2); clear hk5 hs7 hb7) | (clear hk5 hs7 hb7))
          | (have HB3 : Hid (Below V.heap.size V w7) := hid ((blOver HB2.out Z27).trans (hb7.mono (blOver HB2.out Z27).size)); have HS7 := hid hs7; have HY3 : Hid (XBox w7 w6.heap.size (⟨#[]⟩, 0) (.slice none 0 0)) := hid (XBox.below (W := World.alloc w6 Z27) (z27 w6) hb7); have HLT : Hid (w6.heap.size < (w6.alloc Z27).heap.size) := hid (by simp); have y0 := HY3.out.c0; have y1 := HY3.out.c1; have y2 := HY3.out.c2; have z0 := HY3.out.f (k := 0); have z1 := HY3.out.f (k := 1); have z2 := HY3.out.f (k := 2); clear hk5 hs7 hb7))
      | fail))
    all_goals (go_wp2_with fail; go_meet)
    all_goals first
      | exact ⟨w7.heap.size, k5, rfl, rfl, World.alloc_heap_new w7 _, (SepTm.tm HS7.out).below (alloc_below0 w7 _), K5.out, blOver HB3.out _⟩
      | exact ⟨V.heap.size, k5, rfl, rfl, HY3.out.all (x := k5.x) _, SepTm.tm (HS7.out.keep (fun q hq _ => sets_far (by have := HLT.out; omega) _ _ _)), K5.out, sets_below HB3.out (Nat.le_refl _) _ _ _⟩
      | exact ⟨w5.heap.size, k5, rfl, rfl, HY3.out.all (x := k5.x) _, SepTm.tm (HS7.out.keep (fun q hq _ => sets_far (by have := HLT.out; omega) _ _ _)), K5.out, sets_below HB3.out HB1.out.size _ _ _⟩
      | exact ⟨w6.heap.size, k5, rfl, rfl, HY3.out.all (x := k5.x) _, SepTm.tm (HS7.out.keep (fun q hq _ => sets_far (by rw [World.size_alloc] at hq; omega) _ _ _)), K5.out, sets_below HB3.out HB2.out.size _ _ _⟩
  case rest =>
  obtain ⟨g5, k5, rfl, rfl, hX5, hT5, hk5, hb11⟩ := hcut
  rename World => w11
  have B11 := hid hb11
  have D11 := hid (B10.out.trans (hb11.mono B10.out.size))
  have X5 := hid hX5; have T5 := hid hT5; have K5 := hid hk5
  clear hX5 hT5 hk5 hb11 Q0 Q1 Q3 Q4 Q5 HL HV25 HV17 HV9 HA4
  have i0 := (I9.out.below D11.out).box.c 0
  have y0 := (Y9.out.below D11.out).c0; have y1 := (Y9.out.below D11.out).c1; have y2 := (Y9.out.below D11.out).c2
  go_wp2_with fail
  refine (HA6.out w11 a9 c9 (I9.out.below D11.out).low (C9.out.below D11.out)).mono ?_
  rintro e w12 ⟨k6, rfl, hk6, hE12, hb12⟩
  have bx := alloc_below0 w12 (.cells #[.string k6.x.1, .int .i64 k6.x.2, .slice k6.a (lenF k6.l) k6.c] 27)
  have hbb := hb12.trans (bx.mono hb12.size)
  have D12 := hid (D11.out.trans (hbb.mono D11.out.size))
  have B12 := hid (B11.out.trans (hbb.mono B11.out.size))
  have X5' := hid (X5.out.below hbb); have T5' := hid (T5.out.below hbb)
  have K6 := hid hk6
  have T6 := hid ((SepTm.tm hE12).below bx)
  have X6 : Hid (XBox (w12.alloc (.cells #[.string k6.x.1, .int .i64 k6.x.2, .slice k6.a (lenF k6.l) k6.c] 27)) w12.heap.size k6.x (.slice k6.a (lenF k6.l) k6.c)) := hid (World.alloc_heap_new w12 _)
  clear hk6 hE12 hb12 bx hbb i0 y0 y1 y2 B11 D11 X5 T5 HA6
  have p0 := (X4.out.below B12.out).c0; have p1 := (X4.out.below B12.out).c1; have p2 := (X4.out.below B12.out).c2
  have q0 := (X9.out.below D12.out).c0; have q1 := (X9.out.below D12.out).c1; have q2 := (X9.out.below D12.out).c2
  go_wp2_with fail
  clear p0 p1 p2 q0 q1 q2
  generalize w12.alloc (.cells #[.string k6.x.1, .int .i64 k6.x.2, .slice k6.a (lenF k6.l) k6.c] 27) = W12 at D12 B12 X5' T5' T6 X6 ⊢
  generalize w12.heap.size = g6 at X6 ⊢
  refine (rexact_any k4.tn k1.tn k4.a k1.a k4.c k1.c W12 (T4.out.below B12.out) (T9.out.below D12.out)).mono ?_
  rintro e w13 ⟨he, hb13⟩
  have he' : e = .returned (.bool true) := by rw [he, K4.out, HKX.out, exN_self]
  subst he'
  have D13 := hid (D12.out.trans (hb13.mono D12.out.size))
  have X5'' := hid (X5'.out.below hb13); have T5'' := hid (T5'.out.below hb13)
  have T6' := hid (T6.out.below hb13); have X6' := hid (X6.out.below hb13)
  clear he hb13 D12 B12 X5' T5' T6 X6
  have p0 := X5''.out.c0; have p1 := X5''.out.c1; have p2 := X5''.out.c2
  have q0 := (X9.out.below D13.out).c0; have q1 := (X9.out.below D13.out).c1; have q2 := (X9.out.below D13.out).c2
  go_wp2_with fail
  refine (rexact_any k5.tn k1.tn k5.a k1.a k5.c k1.c w13 T5''.out (T9.out.below D13.out)).mono ?_
  rintro e w14 ⟨he, hb14⟩
  have he' : e = .returned (.bool true) := by rw [he, K5.out, HKX.out, exN_self]
  subst he'
  have D14 := hid (D13.out.trans (hb14.mono D13.out.size))
  have T6'' := hid (T6'.out.below hb14); have X6'' := hid (X6'.out.below hb14)
  clear he hb14 D13 X5'' T5'' T6' X6' p0 p1 p2 q0 q1 q2
  have p0 := X6''.out.c0; have p1 := X6''.out.c1; have p2 := X6''.out.c2
  have q0 := (Y9.out.below D14.out).c0; have q1 := (Y9.out.below D14.out).c1; have q2 := (Y9.out.below D14.out).c2
  go_wp2_with fail
  refine (rexact_any k6.tn CT k6.a a9 k6.c c9 w14 T6''.out (C9.out.below D14.out)).mono ?_
  rintro e w15 ⟨he, hb15⟩
  have he' : e = .returned (.bool true) := by rw [he, K6.out, exN_self]
  subst he'
  have I15 := hid ((I9.out.below D14.out).below hb15)
  clear he hb15 D14 T6'' X6'' p0 p1 p2 q0 q1 q2
  go_wp2
  go_ret
  exact ⟨rfl, I15.out.low⟩
end Go.Proofs.Ytgidgmgpgfonnaa
namespace Go.Proofs.Ytgidgmgpgfonnaa
open Go.ChangeShapes Go.WideShapes Go.ChangeAt Go.RowKit Go.Deep

set_option maxRecDepth 100000 in
theorem substLaws_contract (H : Type) (enc : TypeId × Value → H) (W : World) (base : Nat) (args : Array Value) (ds gs : List (DataW H)) (before : List MemPlace)
    (hval : ∀ (j : Nat) t v, Try.f5.params[j]? = some t → args[j]? = some v → Value.okWide Try.prog W .any base t v)
    (hW : DataW.Whole enc Try.prog Try.f5.params.toList Rows.substLawsSpec.vars false W args.toList ds gs before) (hk : Rows.uptoSmall H (ds ++ gs) = true) :
    Calls Try.prog 5 args W fun e W' => ∃ v, e = .returned v ∧ Rows.substLawsSpec.post enc Try.prog Try.f5 false true false false W args v W' := by
  have hW' := hW
  obtain ⟨p, q, hA0, hV, rfl, hfz, hnd⟩ := hW
  have hA : DataW.TrodAll enc Try.prog W 0 (fun _ => true) true Try.f5.params.toList args.toList ds p := hA0
  rw [Try.params5] at hA hval
  obtain ⟨v0, vs0, d0, ds0, p0, q0, hargs, rfl, rfl, h0, r0⟩ := trodAll_cons hA
  obtain ⟨rfl, rfl, rfl⟩ := trodAll_nil r0
  obtain rfl : args = #[v0] := by cases args; simp_all
  obtain ⟨rfl, rfl⟩ := trodVars_none hV
  have lt0 : ∀ x ∈ p0, x.block < W.heap.size := by obtain ⟨m, hm⟩ := h0; exact DataW.trod_lt m _ _ _ hm
  have hbulk : Rows.uptoBulk d0 ≤ 1048576 := by
    have h : Rows.uptoBulkAll ([d0] ++ []) ≤ 1048576 := of_decide_eq_true hk
    simp only [List.append_nil, Rows.uptoBulkAll] at h
    omega
  obtain ⟨q, rfl, hT, hs⟩ := some_open (hval 0 30 v0 rfl rfl) h0 hbulk
  clear hA0
  refine (substLaws_walk q W hT hs).mono fun e W' ⟨he, bel⟩ => ?_
  subst he
  exact ⟨_, rfl, _, _, _, [], _, [], hW', trodAll_mk1 (shut_bool Try.underlying4 _), (trodAll_cons_mk (Below.trod laidOut (by kernel_rfl) (of_decide_eq_true (by kernel_rfl)) h0 bel lt0) trodAll_mk0), rfl, bel.frame _, fun h => by cases h⟩

set_option maxRecDepth 100000 in
theorem substLaws_lifted (os : Os) (started : os.Started) (H : Type) (enc : TypeId × Value → H) (F : Stop.Interp) :
    ReturnsInHanded {} Try.checked os 5 .any ((Rows.OpenSpec.upto Rows.substLawsSpec).pre6 enc Try.prog Try.f5 Rows.substLawsUptoRow.domain false) (((Rows.OpenSpec.upto Rows.substLawsSpec).at F).post enc Try.prog Try.f5 false true false false) := by
  refine returnsInHanded_of_cond (C := Try.checked) (s := Rows.OpenSpec.upto Rows.substLawsSpec) (k := Rows.uptoSmall) rfl own started (by kernel_rfl) Try.func5
    (OpenSpec.witness (enc := enc) (C := Try.checked) (s := Rows.OpenSpec.upto Rows.substLawsSpec) (k := Rows.uptoSmall) rfl false ⟨#[], #[.agg #[.slice none 0 0, .slice none 0 0, .slice none 0 0, .string .empty, .int .i64 0, .slice none 0 0, .slice none 0 0, .int .i64 0]], []⟩ 8 (by kernel_rfl) (by kernel_rfl) (by kernel_rfl)
      (x := ([.agg [.nil, .nil, .nil, .agg [.lit (.string []), .lit (.int .i64 0), .nil], .nil, .lit (.int .i64 0)]], [], [])) (by kernel_rfl) rfl (by kernel_rfl)) ?_
  intro W base args ds gs before hval hW _ hk _
  exact substLaws_contract H enc W base args ds gs before hval hW hk

set_option maxRecDepth 100000 in
theorem substLaws_holds : Rows.SubstLawsUptoSaid :=
  OpenClaim.holds_of_cond 5 Try.f5 rfl rfl rfl rfl rfl rfl rfl ⟨rfl, rfl, rfl, rfl, rfl⟩ rfl rfl rfl rfl rfl (by kernel_rfl) Try.func5 (by kernel_rfl)
    (of_decide_eq_true (by kernel_rfl)) (by unfold Func.isWrapper; first | (rw [if_pos (by decide +kernel)]; kernel_rfl) | (rw [if_neg (by decide +kernel)]; exact ⟨rfl, rfl⟩))
    (fun os started H enc _ F => substLaws_lifted os started H enc F)
end Go.Proofs.Ytgidgmgpgfonnaa
