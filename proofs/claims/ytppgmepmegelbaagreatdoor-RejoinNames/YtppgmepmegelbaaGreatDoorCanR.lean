/- Canonical forms, without any program: the axioms, cancelling, another argument in one place, another term at any place. -/
import Derived.Test.YtppgmepmegelbaaGreatDoorCanQ
import Derived.Test.YtppgmepmegelbaaGreatDoorTBackP
namespace Go.Proofs.YtppgmepmegelbaaGreatDoor
open Go.RowKit Go.Deep

/-- The parts that a term's canonical form gives to a symbol. -/
def pc (S : Sg) (f : Int) (t : Tn) : List Tn := partsN S f (canonT S t)
theorem canonT_parts {S : Sg} {ar : Int → Nat} (hS : S.Ok ar) {t : Tn} (hj : S.joins t.1.2 = true) (hx : noName t.1.1 = true) (h : RightT S ar t) : List.Perm (pc S t.1.2 t) ((kidsL t.2).flatMap (pc S t.1.2)) := by
  have hc := canonL_can hS h.2
  have hn := h.1
  unfold nodeOk at hn
  rw [if_neg (by simp [hx]), if_pos hj, ← kids_len] at hn
  have hne : canonL S t.2 ≠ [] := fun e => by
    rw [canonL_map, List.map_eq_nil_iff] at e
    rw [e] at hn
    simp at hn
  have h1 := parts_join hj (flat_good hj hc) (canon1_join hx hj hc hne)
  refine (show List.Perm (pc S t.1.2 t) _ from h1).trans ?_
  rw [canonL_map, List.flatMap_map]
  exact List.Perm.refl _
theorem eq_iff {S : Sg} {ar : Int → Nat} (hS : S.Ok ar) {f : Int} (hj : S.joins f = true) {x y : Tn} (hx : RightT S ar x) (hy : RightT S ar y) : canonT S x = canonT S y ↔ List.Perm (pc S f x) (pc S f y) :=
  ⟨fun e => by unfold pc; rw [e], parts_inj hj (canonT_can hS hx) (canonT_can hS hy)⟩

/-! ### the axioms -/
def appT (f : Int) (l : List Tn) : Tn := ((noB, f), mkF l)
theorem right_app {S : Sg} {ar : Int → Nat} {f : Int} {l : List Tn} (hj : S.joins f = true) (h2 : 2 ≤ l.length) (h : ∀ t ∈ l, RightT S ar t) : RightT S ar (appT f l) := by
  refine ⟨?_, right_kids.2 (by rw [show kidsL (appT f l).2 = l from kids_mk l]; exact h)⟩
  unfold nodeOk appT
  dsimp only
  rw [if_neg (by simp [noName_noB]), if_pos hj, len_mk]
  exact h2
theorem pc_app {S : Sg} {ar : Int → Nat} (hS : S.Ok ar) {f : Int} {l : List Tn} (hj : S.joins f = true) (h2 : 2 ≤ l.length) (h : ∀ t ∈ l, RightT S ar t) : List.Perm (pc S f (appT f l)) (l.flatMap (pc S f)) := by
  have h1 := canonT_parts hS (t := appT f l) hj noName_noB (right_app hj h2 h)
  rw [show kidsL (appT f l).2 = l from kids_mk l] at h1
  exact h1
theorem right2 {S : Sg} {ar : Int → Nat} {f : Int} (hj : S.joins f = true) {x y : Tn} (hx : RightT S ar x) (hy : RightT S ar y) : RightT S ar (appT f [x, y]) := right_app hj (by simp) (by simp; exact ⟨hx, hy⟩)
theorem right3 {S : Sg} {ar : Int → Nat} {f : Int} (hj : S.joins f = true) {x y z : Tn} (hx : RightT S ar x) (hy : RightT S ar y) (hz : RightT S ar z) : RightT S ar (appT f [x, y, z]) := right_app hj (by simp) (by simp; exact ⟨hx, hy, hz⟩)
theorem pc2 {S : Sg} {ar : Int → Nat} (hS : S.Ok ar) {f : Int} (hj : S.joins f = true) {x y : Tn} (hx : RightT S ar x) (hy : RightT S ar y) : List.Perm (pc S f (appT f [x, y])) (pc S f x ++ pc S f y) := by
  have := pc_app hS hj (l := [x, y]) (by simp) (by simp; exact ⟨hx, hy⟩)
  simpa using this
theorem ax_turn {S : Sg} {ar : Int → Nat} (hS : S.Ok ar) {f : Int} (hj : S.joins f = true) {x y : Tn} (hx : RightT S ar x) (hy : RightT S ar y) : canonT S (appT f [x, y]) = canonT S (appT f [y, x]) :=
  (eq_iff hS hj (right2 hj hx hy) (right2 hj hy hx)).2 ((pc2 hS hj hx hy).trans (List.perm_append_comm.trans (pc2 hS hj hy hx).symm))
theorem pc3 {S : Sg} {ar : Int → Nat} (hS : S.Ok ar) {f : Int} (hj : S.joins f = true) {x y z : Tn} (hx : RightT S ar x) (hy : RightT S ar y) (hz : RightT S ar z) : List.Perm (pc S f (appT f [x, y, z])) (pc S f x ++ (pc S f y ++ pc S f z)) := by
  have := pc_app hS hj (l := [x, y, z]) (by simp) (by simp; exact ⟨hx, hy, hz⟩)
  simpa using this
theorem ax_flat {S : Sg} {ar : Int → Nat} (hS : S.Ok ar) {f : Int} (hj : S.joins f = true) {x y z : Tn} (hx : RightT S ar x) (hy : RightT S ar y) (hz : RightT S ar z) : canonT S (appT f [x, y, z]) = canonT S (appT f [x, appT f [y, z]]) :=
  (eq_iff hS hj (right3 hj hx hy hz) (right2 hj hx (right2 hj hy hz))).2
    ((pc3 hS hj hx hy hz).trans ((pc2 hS hj hx (right2 hj hy hz)).trans ((pc2 hS hj hy hz).append_left _)).symm)
theorem ax_left {S : Sg} {ar : Int → Nat} (hS : S.Ok ar) {f : Int} (hj : S.joins f = true) {x y z : Tn} (hx : RightT S ar x) (hy : RightT S ar y) (hz : RightT S ar z) : canonT S (appT f [x, appT f [y, z]]) = canonT S (appT f [appT f [x, y], z]) := by
  rw [← ax_flat hS hj hx hy hz]
  refine (eq_iff hS hj (right3 hj hx hy hz) (right2 hj (right2 hj hx hy) hz)).2 ((pc3 hS hj hx hy hz).trans ?_)
  refine ((pc2 hS hj (right2 hj hx hy) hz).trans (((pc2 hS hj hx hy).append_right _).trans ?_)).symm
  rw [List.append_assoc]
theorem cancels {S : Sg} {ar : Int → Nat} (hS : S.Ok ar) {f : Int} (hj : S.joins f = true) {x y z : Tn} (hx : RightT S ar x) (hy : RightT S ar y) (hz : RightT S ar z) : canonT S (appT f [x, y]) = canonT S (appT f [x, z]) ↔ canonT S y = canonT S z := by
  rw [eq_iff hS hj (right2 hj hx hy) (right2 hj hx hz), eq_iff hS hj hy hz]
  constructor
  · intro h
    exact (List.perm_append_left_iff _).1 ((pc2 hS hj hx hy).symm.trans (h.trans (pc2 hS hj hx hz)))
  · intro h
    exact (pc2 hS hj hx hy).trans ((h.append_left _).trans (pc2 hS hj hx hz).symm)
theorem right_const {S : Sg} {ar : Int → Nat} (hS : S.Ok ar) {f u : Int} (hu : S.unit f = some u) : RightT S ar (constT u) := by
  refine ⟨?_, trivial⟩
  unfold nodeOk constT
  dsimp only
  rw [if_neg (by simp [noName_noB]), if_neg (by simp [hS.free f u hu]), hS.none f u hu]
  rfl
theorem canon_const {S : Sg} {ar : Int → Nat} (hS : S.Ok ar) {f u : Int} (hu : S.unit f = some u) : canonT S (constT u) = constT u := by
  unfold canonT canon1 constT
  dsimp only
  rw [if_neg (by simp [noName_noB]), if_neg (by simp [hS.free f u hu])]
  rfl
theorem pc_const {S : Sg} {ar : Int → Nat} (hS : S.Ok ar) {f u : Int} (hj : S.joins f = true) (hu : S.unit f = some u) : pc S f (constT u) = [] := by
  unfold pc partsN
  rw [canon_const hS hu, if_neg (by simp [hj]), isUn_const hu]
  simp
theorem ax_unit {S : Sg} {ar : Int → Nat} (hS : S.Ok ar) {f u : Int} (hj : S.joins f = true) (hu : S.unit f = some u) {x : Tn} (hx : RightT S ar x) : canonT S (appT f [x, constT u]) = canonT S x := by
  refine (eq_iff hS hj (right2 hj hx (right_const hS hu)) hx).2 ((pc2 hS hj hx (right_const hS hu)).trans ?_)
  rw [pc_const hS hj hu, List.append_nil]
theorem ax_unit3 {S : Sg} {ar : Int → Nat} (hS : S.Ok ar) {f u : Int} (hj : S.joins f = true) (hu : S.unit f = some u) {x y : Tn} (hx : RightT S ar x) (hy : RightT S ar y) : canonT S (appT f [x, y, constT u]) = canonT S (appT f [x, y]) := by
  refine (eq_iff hS hj (right3 hj hx hy (right_const hS hu)) (right2 hj hx hy)).2 ((pc3 hS hj hx hy (right_const hS hu)).trans ((pc2 hS hj hx hy).trans ?_).symm)
  rw [pc_const hS hj hu, List.append_nil]

/-! ### another argument in one place -/
theorem kids_setF : ∀ (n : Nat) (F : Fo) (t : Tn), kidsL (setF n F t) = (kidsL F).set n t
  | n, .nil, _ => by cases n <;> rfl
  | 0, .node _ _ _ _ _, _ => rfl
  | n + 1, .node _ _ _ _ r, t => by simp only [setF, kidsL, List.set_cons_succ]; rw [kids_setF n r t]
theorem mkF_inj {l m : List Tn} (h : mkF l = mkF m) : l = m := by
  have := congrArg kidsL h
  rwa [kids_mk, kids_mk] at this
theorem set_split {α : Type} : ∀ {l : List α} {n : Nat} {a : α}, l[n]? = some a → ∃ l1 l2, l = l1 ++ a :: l2 ∧ ∀ b, l.set n b = l1 ++ b :: l2
  | [], _, _, h => by simp at h
  | x :: r, 0, a, h => by simp at h; subst h; exact ⟨[], r, rfl, fun _ => rfl⟩
  | x :: r, n + 1, a, h => by
    simp only [List.getElem?_cons_succ] at h
    obtain ⟨l1, l2, h1, h2⟩ := set_split h
    exact ⟨x :: l1, l2, by rw [h1]; rfl, fun b => by rw [List.set_cons_succ, h2]; rfl⟩
theorem right_set {S : Sg} {ar : Int → Nat} {t b : Tn} {n : Nat} (ht : RightT S ar t) (hb : RightT S ar b) : RightT S ar (t.1, setF n t.2 b) := by
  refine ⟨by rw [len_set]; exact ht.1, right_kids.2 (fun k hk => ?_)⟩
  rw [kids_setF] at hk
  rcases List.mem_or_eq_of_mem_set hk with h | h
  · exact right_kids.1 ht.2 k h
  · rw [h]; exact hb
theorem canon_free {S : Sg} {t : Tn} (hx : noName t.1.1 = true) (hj : S.joins t.1.2 = false) : canonT S t = ((noB, t.1.2), mkF ((kidsL t.2).map (canonT S))) := by
  unfold canonT canon1
  rw [if_neg (by simp [hx]), if_neg (by simp [hj]), canonL_map]
  rfl
theorem within {S : Sg} {ar : Int → Nat} (hS : S.Ok ar) {t a b : Tn} {n : Nat} (ht : RightT S ar t) (hb : RightT S ar b) (ha : (kidsL t.2)[n]? = some a) : canonT S (t.1, setF n t.2 b) = canonT S t ↔ canonT S b = canonT S a := by
  have hra : RightT S ar a := right_kids.1 ht.2 a (List.mem_of_getElem? ha)
  obtain ⟨l1, l2, e1, e2⟩ := set_split ha
  have ek : kidsL (setF n t.2 b) = l1 ++ b :: l2 := by rw [kids_setF, e2]
  have hn := ht.1
  unfold nodeOk at hn
  cases hx : noName t.1.1 with
  | false =>
    rw [if_pos hx] at hn
    have := congrArg List.length e1
    rw [kids_len, hn.2] at this
    simp at this
  | true =>
    cases hj : S.joins t.1.2 with
    | true =>
      rw [eq_iff hS hj (right_set ht hb) ht, eq_iff hS hj hb hra]
      have p1 := canonT_parts hS (t := (t.1, setF n t.2 b)) hj hx (right_set ht hb)
      have p2 := canonT_parts hS (t := t) hj hx ht
      dsimp only at p1
      rw [ek, List.flatMap_append, List.flatMap_cons] at p1
      rw [e1, List.flatMap_append, List.flatMap_cons] at p2
      constructor
      · intro h
        have := p1.symm.trans (h.trans p2)
        exact (List.perm_append_right_iff _).1 ((List.perm_append_left_iff _).1 this)
      · intro h
        exact p1.trans (((h.append_right _).append_left _).trans p2.symm)
    | false =>
      rw [canon_free (t := (t.1, setF n t.2 b)) hx hj, canon_free hx hj]
      dsimp only
      rw [ek, e1]
      constructor
      · intro h
        have h2 := mkF_inj (congrArg Prod.snd h)
        simp only [List.map_append, List.map_cons] at h2
        exact (List.cons.inj (List.append_cancel_left h2)).1
      · intro h
        simp only [List.map_append, List.map_cons]
        rw [h]

/-! ### another term at any place -/
theorem sub_right {S : Sg} {ar : Int → Nat} : ∀ (ps : List Int) {t x : Tn}, RightT S ar t → subT ps t = some x → RightT S ar x
  | [], t, x, ht, h => by simp only [subT, Option.some.injEq] at h; rw [← h]; exact ht
  | i :: p, t, x, ht, h => by
    simp only [subT] at h
    cases hk : kidT i t.2 with
    | none => rw [hk] at h; cases h
    | some k =>
      rw [hk] at h
      exact sub_right p (right_kids.1 ht.2 k (List.mem_of_getElem? (kidT_get hk).2)) h
theorem put_right {S : Sg} {ar : Int → Nat} {u : Tn} (hu : RightT S ar u) : ∀ (ps : List Int) {t y : Tn}, RightT S ar t → putT u ps t = some y → RightT S ar y
  | [], t, y, _, h => by simp only [putT, Option.some.injEq] at h; rw [← h]; exact hu
  | i :: p, t, y, ht, h => by
    simp only [putT] at h
    cases hk : kidT i t.2 with
    | none => rw [hk] at h; cases h
    | some k =>
      rw [hk] at h
      dsimp only at h
      cases hp : putT u p k with
      | none => rw [hp] at h; cases h
      | some k' =>
        rw [hp] at h
        simp only [Option.some.injEq] at h
        subst h
        exact right_set ht (put_right hu p (right_kids.1 ht.2 k (List.mem_of_getElem? (kidT_get hk).2)) hp)
theorem deep {S : Sg} {ar : Int → Nat} (hS : S.Ok ar) {u : Tn} (hu : RightT S ar u) : ∀ (ps : List Int) {t x y : Tn}, RightT S ar t → subT ps t = some x → putT u ps t = some y → (canonT S y = canonT S t ↔ canonT S u = canonT S x)
  | [], t, x, y, _, h, h2 => by
    simp only [subT, Option.some.injEq] at h
    simp only [putT, Option.some.injEq] at h2
    rw [← h, ← h2]
  | i :: p, t, x, y, ht, h, h2 => by
    simp only [subT] at h
    simp only [putT] at h2
    cases hk : kidT i t.2 with
    | none => rw [hk] at h; cases h
    | some k =>
      rw [hk] at h h2
      dsimp only at h2
      have hkr := right_kids.1 ht.2 k (List.mem_of_getElem? (kidT_get hk).2)
      cases hp : putT u p k with
      | none => rw [hp] at h2; cases h2
      | some k' =>
        rw [hp] at h2
        simp only [Option.some.injEq] at h2
        subst h2
        rw [within hS ht (put_right hu p hkr hp) (kidT_get hk).2]
        exact deep hS hu p hkr h hp
end Go.Proofs.YtppgmepmegelbaaGreatDoor
