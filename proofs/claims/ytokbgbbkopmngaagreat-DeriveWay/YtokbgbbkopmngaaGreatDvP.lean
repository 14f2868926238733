/- Steps at a node, plainly: what becomes of it, and which step leads back. -/
import Derived.Test.YtokbgbbkopmngaaGreatCanR
import Derived.Test.YtokbgbbkopmngaaGreatCanS
namespace Go.Proofs.YtokbgbbkopmngaaGreat
open Go.RowKit Go.Deep

/-! ### forests without their places -/
def clF : Fo → Fo
  | .nil => .nil
  | .node _ _ x l r => .node 0 0 x (clF l) (clF r)
def clT (t : Tn) : Tn := (t.1, clF t.2)
theorem clF_len : ∀ F : Fo, lenF (clF F) = lenF F
  | .nil => rfl
  | .node _ _ _ _ r => by simp only [clF, lenF]; rw [clF_len r]
theorem clF_twice : ∀ F : Fo, clF (clF F) = clF F
  | .nil => rfl
  | .node _ _ _ l r => by simp only [clF]; rw [clF_twice l, clF_twice r]
theorem clF_kidsAt {w : World} : ∀ {F : Fo} {b o : Nat}, KidsAt w F b o → KidsAt w (clF F) b o
  | .nil, _, _, h => h
  | .node _ _ x l r, b, o, ⟨⟨a, c, h0, h1, h2, hs, hl⟩, hr⟩ => by
    refine ⟨⟨a, c, h0, h1, by rw [clF_len]; exact h2, by rw [clF_len]; exact hs, ?_⟩, clF_kidsAt hr⟩
    rcases hl with h | ⟨b', o', ha, hk⟩
    · left; rw [h]; rfl
    · exact .inr ⟨b', o', ha, clF_kidsAt hk⟩
theorem clF_tm {w : World} {x : ByteArray × Int} {a : Option Addr} {c : Nat} {l : Fo} (h : TmAt w x a c l) : TmAt w x a c (clF l) := by
  refine ⟨by rw [clF_len]; exact h.sizes, ?_⟩
  rcases h.args with e | ⟨b, o, ha, hk⟩
  · left; rw [e]; rfl
  · exact .inr ⟨b, o, ha, clF_kidsAt hk⟩
def Cln (F : Fo) : Prop := clF F = F
theorem cln_cl (F : Fo) : Cln (clF F) := clF_twice F
theorem cln_kids : ∀ {F : Fo}, Cln F → ∀ k ∈ kidsL F, Cln k.2
  | .nil, _, k, hk => by simp [kidsL] at hk
  | .node b o x l r, h, k, hk => by
    unfold Cln at h
    simp only [clF, BT.node.injEq] at h
    rw [kidsL, List.mem_cons] at hk
    rcases hk with rfl | hk
    · exact h.2.2.2.1
    · exact cln_kids (F := r) h.2.2.2.2 k hk
theorem cln_mk_kids : ∀ {F : Fo}, Cln F → mkF (kidsL F) = F
  | .nil, _ => rfl
  | .node b o x l r, h => by
    unfold Cln at h
    simp only [clF, BT.node.injEq] at h
    simp only [kidsL, mkF]
    rw [cln_mk_kids (F := r) h.2.2.2.2, ← h.1, ← h.2.1]
theorem cln_mk : ∀ {l : List Tn}, (∀ k ∈ l, Cln k.2) → Cln (mkF l)
  | [], _ => rfl
  | t :: r, h => by
    unfold Cln
    simp only [mkF, clF]
    rw [h t List.mem_cons_self, cln_mk (l := r) (fun k hk => h k (List.mem_cons_of_mem _ hk))]
theorem cln_nil : Cln .nil := rfl
theorem cln_set : ∀ (n : Nat) {F : Fo} {t : Tn}, Cln F → Cln t.2 → Cln (setF n F t)
  | n, .nil, _, _, _ => by cases n <;> rfl
  | 0, .node b o x l r, t, h, ht => by
    unfold Cln at h ⊢
    simp only [clF, BT.node.injEq] at h
    simp only [setF, clF, BT.node.injEq]
    exact ⟨h.1, h.2.1, trivial, ht, h.2.2.2.2⟩
  | n + 1, .node b o x l r, t, h, ht => by
    unfold Cln at h ⊢
    simp only [clF, BT.node.injEq] at h
    simp only [setF, clF, BT.node.injEq]
    exact ⟨h.1, h.2.1, trivial, h.2.2.2.1, cln_set n (F := r) h.2.2.2.2 ht⟩
theorem kidT_mem {i : Int} {l : Fo} {k : Tn} (h : kidT i l = some k) : k ∈ kidsL l := List.mem_of_getElem? (kidT_get h).2
theorem cln_sub : ∀ (ps : List Int) {t x : Tn}, Cln t.2 → subT ps t = some x → Cln x.2
  | [], t, x, h, e => by simp only [subT, Option.some.injEq] at e; subst e; exact h
  | i :: ps, t, x, h, e => by
    simp only [subT] at e
    cases hk : kidT i t.2 with
    | none => rw [hk] at e; cases e
    | some k => rw [hk] at e; exact cln_sub ps (cln_kids h k (kidT_mem hk)) e
theorem cln_put {u : Tn} (hu : Cln u.2) : ∀ (ps : List Int) {t y : Tn}, Cln t.2 → putT u ps t = some y → Cln y.2
  | [], t, y, h, e => by simp only [putT, Option.some.injEq] at e; subst e; exact hu
  | i :: ps, t, y, h, e => by
    simp only [putT] at e
    cases hk : kidT i t.2 with
    | none => rw [hk] at e; cases e
    | some k =>
      rw [hk] at e
      simp only at e
      cases hp : putT u ps k with
      | none => rw [hp] at e; cases e
      | some k' =>
        rw [hp] at e
        simp only [Option.some.injEq] at e
        subst e
        exact cln_set _ h (cln_put hu ps (cln_kids h k (kidT_mem hk)) hp)

/-! ### steps at a node -/
def layL (ks : List Tn) (i m : Nat) (xs : List Tn) : List Tn := ks.take i ++ (xs ++ ks.drop (i + m))
/-- A step without its path: its kind, At, Many, Sym. -/
structure Sp where
  kind : Int
  at_ : Int
  many : Int
  sym : Int
def inI (i : Int) (n : Nat) : Bool := decide (0 ≤ i) && decide (i < n)
def gathN (S : Sg) (t : Tn) : Bool := noName t.1.1 && S.joins t.1.2
def flatN (t : Tn) (p : Sp) : Option (Tn × Sp) := match (kidsL t.2)[p.at_.toNat]? with
  | some y => if headed t.1.2 y then some ((t.1, mkF (layL (kidsL t.2) p.at_.toNat 1 (kidsL y.2))), ⟨2, p.at_, lenF y.2, 0⟩) else none
  | none => none
def groupN (t : Tn) (p : Sp) : Option (Tn × Sp) :=
  if 2 ≤ p.many ∧ p.many < lenF t.2 ∧ p.at_ + p.many ≤ lenF t.2 then some ((t.1, mkF (layL (kidsL t.2) p.at_.toNat p.many.toNat [((noB, t.1.2), mkF (((kidsL t.2).drop p.at_.toNat).take p.many.toNat))])), ⟨1, p.at_, 0, 0⟩) else none
def swapN (t : Tn) (p : Sp) : Option (Tn × Sp) := match (kidsL t.2)[p.at_.toNat]?, (kidsL t.2)[p.at_.toNat + 1]? with
  | some y, some z => some ((t.1, mkF (layL (kidsL t.2) p.at_.toNat 2 [z, y])), ⟨3, p.at_, 0, 0⟩)
  | _, _ => none
def dropN (t : Tn) (u : Int) (p : Sp) : Option (Tn × Sp) := match (kidsL t.2)[p.at_.toNat]? with
  | some y => if isConst y u then (if lenF t.2 = 2 then ((kidsL t.2)[1 - p.at_.toNat]?).map fun z => (z, ⟨5, p.at_, 1, t.1.2⟩) else some ((t.1, mkF (layL (kidsL t.2) p.at_.toNat 1 [])), ⟨5, p.at_, 0, t.1.2⟩)) else none
  | none => none
def growN (S : Sg) (t : Tn) (p : Sp) : Option (Tn × Sp) := match S.unit p.sym with
  | none => none
  | some u =>
    if p.many = 1 then (if 0 ≤ p.at_ ∧ p.at_ ≤ 1 then some (((noB, p.sym), mkF (layL [t] p.at_.toNat 0 [constT u])), ⟨4, p.at_, 0, 0⟩) else none)
    else if p.many = 0 then (if headed p.sym t = true ∧ 0 ≤ p.at_ ∧ p.at_ ≤ lenF t.2 then some ((t.1, mkF (layL (kidsL t.2) p.at_.toNat 0 [constT u])), ⟨4, p.at_, 0, 0⟩) else none)
    else none
def stepN (S : Sg) (t : Tn) (p : Sp) : Option (Tn × Sp) :=
  if p.kind = 5 then growN S t p
  else if gathN S t = true ∧ inI p.at_ (lenF t.2) = true then
    (if p.kind = 1 then flatN t p else if p.kind = 2 then groupN t p else if p.kind = 3 then swapN t p
     else if p.kind = 4 then (match S.unit t.1.2 with | some u => dropN t u p | none => none) else none)
  else none
/-- A step at its path. -/
def stepT (S : Sg) (t : Tn) (ps : List Int) (p : Sp) : Option (Tn × Sp) := match subT ps t with
  | none => none
  | some n => match stepN S n p with
    | none => none
    | some r => (putT r.1 ps t).map fun y => (y, r.2)

/-! ### lists -/
theorem lay_len {ks xs : List Tn} {i m : Nat} (h : i + m ≤ ks.length) : (layL ks i m xs).length + m = ks.length + xs.length := by
  simp only [layL, List.length_append, List.length_take, List.length_drop]; omega
theorem lay_back {ks xs : List Tn} {i m : Nat} (h : i + m ≤ ks.length) : layL (layL ks i m xs) i xs.length ((ks.drop i).take m) = ks := by
  have e1 : (ks.take i).length = i := by rw [List.length_take]; omega
  unfold layL
  rw [List.take_left' e1, show i + xs.length = (ks.take i ++ xs).length by rw [List.length_append, e1], ← List.append_assoc (ks.take i) xs, List.drop_left, ← List.drop_drop, List.take_append_drop, List.take_append_drop]
theorem lay_mid {ks xs : List Tn} {i m : Nat} (h : i + m ≤ ks.length) : ((layL ks i m xs).drop i).take xs.length = xs := by
  have e1 : (ks.take i).length = i := by rw [List.length_take]; omega
  unfold layL
  rw [List.drop_left' e1, List.take_left]
theorem lay_get {ks xs : List Tn} {i m k : Nat} (h : i + m ≤ ks.length) (hk : k < xs.length) : (layL ks i m xs)[i + k]? = xs[k]? := by
  have e1 : (ks.take i).length = i := by rw [List.length_take]; omega
  unfold layL
  rw [List.getElem?_append_right (by omega), e1, show i + k - i = k by omega, List.getElem?_append_left hk]
theorem drop_take_one {ks : List Tn} {i : Nat} {y : Tn} (h : ks[i]? = some y) : (ks.drop i).take 1 = [y] := by
  obtain ⟨hi, rfl⟩ := List.getElem?_eq_some_iff.1 h
  rw [List.drop_eq_getElem_cons hi]; rfl
theorem drop_take_two {ks : List Tn} {i : Nat} {y z : Tn} (h : ks[i]? = some y) (h2 : ks[i + 1]? = some z) : (ks.drop i).take 2 = [y, z] := by
  obtain ⟨hi, rfl⟩ := List.getElem?_eq_some_iff.1 h
  obtain ⟨hi2, rfl⟩ := List.getElem?_eq_some_iff.1 h2
  rw [List.drop_eq_getElem_cons hi, List.drop_eq_getElem_cons hi2]; rfl
theorem lay_mem {ks xs : List Tn} {i m : Nat} {k : Tn} (h : k ∈ layL ks i m xs) : k ∈ ks ∨ k ∈ xs := by
  unfold layL at h
  rw [List.mem_append, List.mem_append] at h
  rcases h with h | h | h
  · exact .inl (List.mem_of_mem_take h)
  · exact .inr h
  · exact .inl (List.mem_of_mem_drop h)
theorem lay_split {ks : List Tn} {i m : Nat} : ks = ks.take i ++ ((ks.drop i).take m ++ ks.drop (i + m)) := by
  rw [← List.drop_drop, List.take_append_drop, List.take_append_drop]
theorem inI_iff {i : Int} {n : Nat} : inI i n = true ↔ ∃ k : Nat, i = k ∧ k < n := by
  unfold inI
  simp only [Bool.and_eq_true, decide_eq_true_eq]
  constructor
  · rintro ⟨h1, h2⟩; exact ⟨i.toNat, by omega, by omega⟩
  · rintro ⟨k, rfl, h⟩; omega

/-! ### what a step makes is right, equal, and led back -/
structure StepOk (S : Sg) (ar : Int → Nat) (t t' : Tn) (q : Sp) : Prop where
  right : RightT S ar t'
  cln : Cln t'.2
  eq : canonT S t' = canonT S t
  back : ∃ q', stepN S t' q = some (t, q')
theorem right_list {S : Sg} {ar : Int → Nat} {x : ByteArray × Int} {l : List Tn} (hn : nodeOk S ar x l.length) (h : ∀ k ∈ l, RightT S ar k) : RightT S ar (x, mkF l) := ⟨by rw [len_mk]; exact hn, right_kids.2 (by rw [kids_mk]; exact h)⟩
theorem node_two {S : Sg} {ar : Int → Nat} {t : Tn} (h : RightT S ar t) (hg : gathN S t = true) : 2 ≤ lenF t.2 ∧ t.1 = (noB, t.1.2) ∧ S.joins t.1.2 = true := by
  unfold gathN at hg
  rw [Bool.and_eq_true] at hg
  have h1 := h.1
  unfold nodeOk at h1
  rw [if_neg (by rw [hg.1]; simp), if_pos hg.2] at h1
  exact ⟨h1, by rw [← noName_eq hg.1], hg.2⟩
theorem ok_two {S : Sg} {ar : Int → Nat} {f : Int} {n : Nat} (hj : S.joins f = true) (h : 2 ≤ n) : nodeOk S ar (noB, f) n := by
  unfold nodeOk
  rw [if_neg (by rw [noName_noB]; simp), if_pos hj]; exact h
theorem head_eq {t : Tn} {f : Int} (h : headed f t = true) : t.1 = (noB, f) := by
  have h1 := headed_iff.1 h
  rw [← noName_eq h1.1, ← h1.2]
theorem gath_app (S : Sg) {f : Int} {l : Fo} (hj : S.joins f = true) : gathN S ((noB, f), l) = true := by
  unfold gathN; simp [noName_noB, hj]
/-- Two right terms by one symbol whose arguments give the same. -/
theorem eq_kids {S : Sg} {ar : Int → Nat} (hS : S.Ok ar) {f : Int} {l m : List Tn} (hj : S.joins f = true) (h1 : 2 ≤ l.length) (h2 : 2 ≤ m.length) (hl : ∀ t ∈ l, RightT S ar t) (hm : ∀ t ∈ m, RightT S ar t) (hp : List.Perm (l.flatMap (pc S f)) (m.flatMap (pc S f))) : canonT S ((noB, f), mkF l) = canonT S ((noB, f), mkF m) :=
  (eq_iff hS hj (right_app hj h1 hl) (right_app hj h2 hm)).2 (((pc_app hS hj h1 hl).trans hp).trans (pc_app hS hj h2 hm).symm)

theorem flat_ok {S : Sg} {ar : Int → Nat} (hS : S.Ok ar) {t t' : Tn} {p q : Sp} (ht : RightT S ar t) (hc : Cln t.2) (hg : gathN S t = true) (hi : inI p.at_ (lenF t.2) = true) (h : flatN t p = some (t', q)) : StepOk S ar t t' q := by
  obtain ⟨k, hk, hlt⟩ := inI_iff.1 hi
  obtain ⟨h2, hx, hj⟩ := node_two ht hg
  obtain ⟨x, F⟩ := t
  obtain ⟨nm, f⟩ := x
  simp only at hx hj h2 hlt hc hg
  obtain ⟨rfl, _⟩ := Prod.mk.inj hx
  unfold flatN at h
  rw [hk, Int.toNat_natCast] at h
  simp only at h
  cases hy : (kidsL F)[k]? with
  | none => rw [hy] at h; cases h
  | some y =>
    rw [hy] at h
    simp only at h
    by_cases hh : headed f y = true
    · rw [if_pos hh] at h
      obtain ⟨rfl, rfl⟩ := Prod.mk.inj (Option.some.inj h)
      have hrk := right_kids.1 ht.2
      have hym : y ∈ kidsL F := List.mem_of_getElem? hy
      have hry := hrk y hym
      have hye := head_eq hh
      have hgy : gathN S y = true := by rw [show y = ((noB, f), y.2) by rw [← hye]]; exact gath_app S hj
      obtain ⟨hy2, _, _⟩ := node_two hry hgy
      have hlen := kids_len F
      have hylen := kids_len y.2
      have hle : k + 1 ≤ (kidsL F).length := by omega
      have hl := lay_len (xs := kidsL y.2) hle
      have hall : ∀ z ∈ layL (kidsL F) k 1 (kidsL y.2), RightT S ar z := fun z hz => by
        rcases lay_mem hz with hz | hz
        · exact hrk z hz
        · exact right_kids.1 hry.2 z hz
      refine ⟨right_list (ok_two hj (by omega)) hall, cln_mk (fun z hz => ?_), ?_, ?_⟩
      · rcases lay_mem hz with hz | hz
        · exact cln_kids hc z hz
        · exact cln_kids (cln_kids hc y hym) z hz
      · have hself : ((noB, f), F) = ((noB, f), mkF (kidsL F)) := by rw [cln_mk_kids hc]
        rw [hself]
        refine eq_kids hS hj (by omega) (by omega) hall hrk ?_
        have e : kidsL F = (kidsL F).take k ++ ([y] ++ (kidsL F).drop (k + 1)) := by
          have := lay_split (ks := kidsL F) (i := k) (m := 1)
          rw [drop_take_one hy] at this
          exact this
        have py : List.Perm ((kidsL y.2).flatMap (pc S f)) ([y].flatMap (pc S f)) := by
          have := canonT_parts hS (t := y) (by rw [hye]; exact hj) (by rw [hye]; exact noName_noB) hry
          rw [hye] at this
          simpa using this.symm
        unfold layL
        have e2 : (kidsL F).flatMap (pc S f) = ((kidsL F).take k).flatMap (pc S f) ++ (([y].flatMap (pc S f)) ++ ((kidsL F).drop (k + 1)).flatMap (pc S f)) := by
          conv => lhs; rw [e]
          rw [List.flatMap_append, List.flatMap_append]
        rw [e2, List.flatMap_append, List.flatMap_append]
        exact (py.append_right _).append_left _
      · refine ⟨⟨1, k, 0, 0⟩, ?_⟩
        have hm : lenF (mkF (layL (kidsL F) k 1 (kidsL y.2))) = (layL (kidsL F) k 1 (kidsL y.2)).length := len_mk _
        unfold stepN
        simp only [gath_app S hj]
        rw [if_neg (by decide), if_pos ⟨trivial, inI_iff.2 ⟨k, by first | rfl | exact hk, by omega⟩⟩, if_neg (by decide), if_pos (by decide)]
        unfold groupN
        simp only
        rw [if_pos (by rw [hm]; omega), Int.toNat_natCast, Int.toNat_natCast, kids_mk, ← hylen, lay_mid hle]
        have := lay_back (xs := kidsL y.2) hle
        rw [drop_take_one hy] at this
        have hyy : ((noB, f), mkF (kidsL y.2)) = y := by rw [cln_mk_kids (cln_kids hc y hym), ← hye]
        rw [hyy, this, cln_mk_kids hc]
    · rw [if_neg hh] at h; cases h
theorem group_ok {S : Sg} {ar : Int → Nat} (hS : S.Ok ar) {t t' : Tn} {p q : Sp} (ht : RightT S ar t) (hc : Cln t.2) (hg : gathN S t = true) (hi : inI p.at_ (lenF t.2) = true) (h : groupN t p = some (t', q)) : StepOk S ar t t' q := by
  obtain ⟨k, hk, hlt⟩ := inI_iff.1 hi
  obtain ⟨h2, hx, hj⟩ := node_two ht hg
  obtain ⟨x, F⟩ := t
  obtain ⟨nm, f⟩ := x
  simp only at hx hj h2 hlt hc hg
  obtain ⟨rfl, _⟩ := Prod.mk.inj hx
  unfold groupN at h
  simp only at h
  by_cases hcond : 2 ≤ p.many ∧ p.many < lenF F ∧ p.at_ + p.many ≤ lenF F
  · rw [if_pos hcond] at h
    obtain ⟨rfl, rfl⟩ := Prod.mk.inj (Option.some.inj h)
    obtain ⟨m, hm⟩ : ∃ m : Nat, p.many = m := ⟨p.many.toNat, by omega⟩
    rw [hk, hm, Int.toNat_natCast, Int.toNat_natCast]
    rw [hk, hm] at hcond
    have hrk := right_kids.1 ht.2
    have hlen := kids_len F
    have hle : k + m ≤ (kidsL F).length := by omega
    have hml : (((kidsL F).drop k).take m).length = m := by rw [List.length_take, List.length_drop]; omega
    have hsub : ∀ z ∈ ((kidsL F).drop k).take m, z ∈ kidsL F := fun z hz => List.mem_of_mem_drop (List.mem_of_mem_take hz)
    have hry : RightT S ar ((noB, f), mkF (((kidsL F).drop k).take m)) := right_list (ok_two hj (by omega)) (fun z hz => hrk z (hsub z hz))
    have hl := lay_len (xs := [((noB, f), mkF (((kidsL F).drop k).take m))]) hle
    simp only [List.length_singleton] at hl
    have hall : ∀ z ∈ layL (kidsL F) k m [((noB, f), mkF (((kidsL F).drop k).take m))], RightT S ar z := fun z hz => by
      rcases lay_mem hz with hz | hz
      · exact hrk z hz
      · rw [List.mem_singleton] at hz; subst hz; exact hry
    refine ⟨right_list (ok_two hj (by omega)) hall, cln_mk (fun z hz => ?_), ?_, ?_⟩
    · rcases lay_mem hz with hz | hz
      · exact cln_kids hc z hz
      · rw [List.mem_singleton] at hz; subst hz; exact cln_mk (fun u hu => cln_kids hc u (hsub u hu))
    · have hself : ((noB, f), F) = ((noB, f), mkF (kidsL F)) := by rw [cln_mk_kids hc]
      rw [hself]
      refine eq_kids hS hj (by omega) (by omega) hall hrk ?_
      have py := pc_app hS hj (l := ((kidsL F).drop k).take m) (by omega) (fun z hz => hrk z (hsub z hz))
      have e2 : (kidsL F).flatMap (pc S f) = ((kidsL F).take k).flatMap (pc S f) ++ (((((kidsL F).drop k).take m).flatMap (pc S f)) ++ ((kidsL F).drop (k + m)).flatMap (pc S f)) := by
        conv => lhs; rw [lay_split (ks := kidsL F) (i := k) (m := m)]
        rw [List.flatMap_append, List.flatMap_append]
      unfold layL
      rw [e2, List.flatMap_append, List.flatMap_append]
      refine (List.Perm.append_right _ ?_).append_left _
      show List.Perm (List.flatMap (pc S f) [appT f (List.take m (List.drop k (kidsL F)))]) _
      simpa using py
    · refine ⟨⟨2, k, m, 0⟩, ?_⟩
      unfold stepN
      simp only [gath_app S hj]
      rw [if_neg (by decide), if_pos ⟨trivial, inI_iff.2 ⟨k, by first | rfl | exact hk, by rw [len_mk]; omega⟩⟩, if_pos (by decide)]
      unfold flatN
      simp only [Int.toNat_natCast, kids_mk]
      have hget := lay_get (xs := [((noB, f), mkF (((kidsL F).drop k).take m))]) (k := 0) hle (by simp)
      rw [Nat.add_zero] at hget
      rw [hget]
      simp only [List.getElem?_cons_zero, kids_mk, len_mk, hml]
      rw [if_pos (c := headed f ((noB, f), mkF (List.take m (List.drop k (kidsL F)))) = true) (headed_iff.2 ⟨noName_noB, rfl⟩)]
      have := lay_back (xs := [((noB, f), mkF (((kidsL F).drop k).take m))]) hle
      simp only [List.length_singleton] at this
      rw [this, cln_mk_kids hc]
  · rw [if_neg hcond] at h; cases h
theorem swap_ok {S : Sg} {ar : Int → Nat} (hS : S.Ok ar) {t t' : Tn} {p q : Sp} (ht : RightT S ar t) (hc : Cln t.2) (hg : gathN S t = true) (hi : inI p.at_ (lenF t.2) = true) (h : swapN t p = some (t', q)) : StepOk S ar t t' q := by
  obtain ⟨k, hk, hlt⟩ := inI_iff.1 hi
  obtain ⟨h2, hx, hj⟩ := node_two ht hg
  obtain ⟨x, F⟩ := t
  obtain ⟨nm, f⟩ := x
  simp only at hx hj h2 hlt hc hg
  obtain ⟨rfl, _⟩ := Prod.mk.inj hx
  unfold swapN at h
  rw [hk, Int.toNat_natCast] at h
  simp only at h
  cases hy : (kidsL F)[k]? with
  | none => rw [hy] at h; cases h
  | some y =>
    cases hz : (kidsL F)[k + 1]? with
    | none => rw [hy, hz] at h; cases h
    | some z =>
      rw [hy, hz] at h
      obtain ⟨rfl, rfl⟩ := Prod.mk.inj (Option.some.inj h)
      have hrk := right_kids.1 ht.2
      have hlen := kids_len F
      have hkz : k + 1 < (kidsL F).length := (List.getElem?_eq_some_iff.1 hz).1
      have hle : k + 2 ≤ (kidsL F).length := by omega
      have hl := lay_len (xs := [z, y]) hle
      simp only [List.length_cons, List.length_nil] at hl
      have hym : y ∈ kidsL F := List.mem_of_getElem? hy
      have hzm : z ∈ kidsL F := List.mem_of_getElem? hz
      have hin : ∀ u ∈ layL (kidsL F) k 2 [z, y], u ∈ kidsL F := fun u hu => by
        rcases lay_mem hu with hu | hu
        · exact hu
        · simp only [List.mem_cons, List.not_mem_nil, or_false] at hu
          rcases hu with rfl | rfl
          · exact hzm
          · exact hym
      refine ⟨right_list (ok_two hj (by omega)) (fun u hu => hrk u (hin u hu)), cln_mk (fun u hu => cln_kids hc u (hin u hu)), ?_, ?_⟩
      · have hself : ((noB, f), F) = ((noB, f), mkF (kidsL F)) := by rw [cln_mk_kids hc]
        rw [hself]
        refine eq_kids hS hj (by omega) (by omega) (fun u hu => hrk u (hin u hu)) hrk (List.Perm.flatMap_right _ ?_)
        conv => rhs; rw [lay_split (ks := kidsL F) (i := k) (m := 2), drop_take_two hy hz]
        unfold layL
        exact ((List.Perm.swap _ _ _).append_right _).append_left _
      · refine ⟨⟨3, k, 0, 0⟩, ?_⟩
        unfold stepN
        simp only [gath_app S hj]
        rw [if_neg (by decide), if_pos ⟨trivial, inI_iff.2 ⟨k, by first | rfl | exact hk, by rw [len_mk]; omega⟩⟩, if_neg (by decide), if_neg (by decide), if_pos (by decide)]
        unfold swapN
        simp only [Int.toNat_natCast, kids_mk]
        have hg0 := lay_get (xs := [z, y]) (k := 0) hle (by simp)
        have hg1 := lay_get (xs := [z, y]) (k := 1) hle (by simp)
        rw [Nat.add_zero] at hg0
        rw [hg0, hg1]
        simp only [List.getElem?_cons_zero, List.getElem?_cons_succ]
        have := lay_back (xs := [z, y]) hle
        rw [drop_take_two hy hz] at this
        simp only [List.length_cons, List.length_nil] at this
        rw [this, cln_mk_kids hc]
theorem const_eq {t : Tn} {u : Int} (h : isConst t u = true) : t = constT u := by
  unfold isConst at h
  simp only [Bool.and_eq_true, beq_iff_eq] at h
  obtain ⟨⟨h1, h2⟩, h3⟩ := h
  obtain ⟨⟨nm, f⟩, F⟩ := t
  simp only at h1 h2 h3
  rw [noName_eq h1, h2, len_nil h3]; rfl
theorem isConst_const (u : Int) : isConst (constT u) u = true := by simp [isConst, constT, noName_noB, lenF]
theorem drop_ok {S : Sg} {ar : Int → Nat} (hS : S.Ok ar) {t t' : Tn} {u : Int} {p q : Sp} (ht : RightT S ar t) (hc : Cln t.2) (hg : gathN S t = true) (hi : inI p.at_ (lenF t.2) = true) (hu : S.unit t.1.2 = some u) (h : dropN t u p = some (t', q)) : StepOk S ar t t' q := by
  obtain ⟨k, hk, hlt⟩ := inI_iff.1 hi
  obtain ⟨h2, hx, hj⟩ := node_two ht hg
  obtain ⟨x, F⟩ := t
  obtain ⟨nm, f⟩ := x
  simp only at hx hj h2 hlt hc hg hu
  obtain ⟨rfl, _⟩ := Prod.mk.inj hx
  unfold dropN at h
  rw [hk, Int.toNat_natCast] at h
  simp only at h
  cases hy : (kidsL F)[k]? with
  | none => rw [hy] at h; cases h
  | some y =>
    rw [hy] at h
    simp only at h
    by_cases hcu : isConst y u = true
    · rw [if_pos hcu] at h
      have hye := const_eq hcu
      subst hye
      have hrk : ∀ z ∈ kidsL F, RightT S ar z := right_kids.1 ht.2
      have hlen := kids_len F
      have hle : k + 1 ≤ (kidsL F).length := by omega
      have hself : ((noB, f), F) = ((noB, f), mkF (kidsL F)) := by rw [cln_mk_kids hc]
      have e : kidsL F = (kidsL F).take k ++ ([constT u] ++ (kidsL F).drop (k + 1)) := by
        have := lay_split (ks := kidsL F) (i := k) (m := 1)
        rw [drop_take_one hy] at this
        exact this
      have e2 : (kidsL F).flatMap (pc S f) = ((kidsL F).take k).flatMap (pc S f) ++ ((kidsL F).drop (k + 1)).flatMap (pc S f) := by
        conv => lhs; rw [e]
        rw [List.flatMap_append, List.flatMap_append]
        simp [pc_const hS hj hu]
      by_cases hn2 : lenF F = 2
      · clear e2
        rw [if_pos hn2] at h
        cases hz : (kidsL F)[1 - k]? with
        | none => rw [hz] at h; cases h
        | some z =>
          rw [hz] at h
          obtain ⟨rfl, rfl⟩ := Prod.mk.inj (Option.some.inj h)
          have hzm : z ∈ kidsL F := List.mem_of_getElem? hz
          have hks : (k = 0 ∧ kidsL F = [constT u, z]) ∨ (k = 1 ∧ kidsL F = [z, constT u]) := by
            rw [hn2] at hlen hlt
            match hl : kidsL F, hlen with
            | [a, b], _ =>
              rw [hl] at hy hz
              have : k = 0 ∨ k = 1 := by omega
              rcases this with rfl | rfl
              · left; simp at hy hz; subst hy hz; exact ⟨rfl, rfl⟩
              · right; simp at hy hz; subst hy hz; exact ⟨rfl, rfl⟩
          refine ⟨hrk z hzm, cln_kids hc z hzm, ?_, ?_⟩
          · rw [hself]
            refine ((eq_iff hS hj (hrk z hzm) (right_app hj (by omega) hrk)).2 ?_)
            refine List.Perm.trans ?_ (pc_app hS hj (by omega) hrk).symm
            rcases hks with ⟨_, e3⟩ | ⟨_, e3⟩ <;> rw [e3] <;> simp [pc_const hS hj hu]
          · refine ⟨⟨4, k, 0, 0⟩, ?_⟩
            unfold stepN
            rw [if_pos rfl]
            unfold growN
            simp only [hu]
            rw [if_pos (by decide), if_pos (by omega), Int.toNat_natCast]
            have : layL [z] k 0 [constT u] = kidsL F := by rcases hks with ⟨rfl, e3⟩ | ⟨rfl, e3⟩ <;> rw [e3] <;> rfl
            rw [this, cln_mk_kids hc]
      · rw [if_neg hn2] at h
        obtain ⟨rfl, rfl⟩ := Prod.mk.inj (Option.some.inj h)
        have hl := lay_len (xs := []) hle
        simp only [List.length_nil] at hl
        have hin : ∀ z ∈ layL (kidsL F) k 1 [], z ∈ kidsL F := fun z hz => by
          rcases lay_mem hz with hz | hz
          · exact hz
          · cases hz
        refine ⟨right_list (ok_two hj (by omega)) (fun z hz => hrk z (hin z hz)), cln_mk (fun z hz => cln_kids hc z (hin z hz)), ?_, ?_⟩
        · rw [hself]
          refine eq_kids hS hj (by omega) (by omega) (fun z hz => hrk z (hin z hz)) hrk ?_
          unfold layL
          rw [e2, List.nil_append, List.flatMap_append]
        · refine ⟨⟨4, k, 0, 0⟩, ?_⟩
          unfold stepN
          rw [if_pos rfl]
          unfold growN
          simp only [hu]
          rw [if_neg (by decide), if_pos (by decide), if_pos ⟨headed_iff.2 ⟨noName_noB, rfl⟩, by omega, by rw [len_mk]; omega⟩, Int.toNat_natCast, kids_mk]
          have := lay_back (xs := []) hle
          rw [drop_take_one hy] at this
          simp only [List.length_nil] at this
          rw [this, cln_mk_kids hc]
    · rw [if_neg hcu] at h; cases h
theorem grow_ok {S : Sg} {ar : Int → Nat} (hS : S.Ok ar) (hUJ : ∀ f u, S.unit f = some u → S.joins f = true) {t t' : Tn} {p q : Sp} (ht : RightT S ar t) (hc : Cln t.2) (h : growN S t p = some (t', q)) : StepOk S ar t t' q := by
  unfold growN at h
  cases hu : S.unit p.sym with
  | none => rw [hu] at h; cases h
  | some u =>
    rw [hu] at h
    simp only at h
    have hj := hUJ _ _ hu
    have hrc := right_const hS hu
    by_cases hm1 : p.many = 1
    · rw [if_pos hm1] at h
      by_cases ha : 0 ≤ p.at_ ∧ p.at_ ≤ 1
      · rw [if_pos ha] at h
        obtain ⟨rfl, rfl⟩ := Prod.mk.inj (Option.some.inj h)
        obtain ⟨k, hk⟩ : ∃ k : Nat, p.at_ = k := ⟨p.at_.toNat, by omega⟩
        rw [hk, Int.toNat_natCast]
        have hks : (k = 0 ∧ layL [t] k 0 [constT u] = [constT u, t]) ∨ (k = 1 ∧ layL [t] k 0 [constT u] = [t, constT u]) := by
          have : k = 0 ∨ k = 1 := by omega
          rcases this with rfl | rfl
          · left; exact ⟨rfl, rfl⟩
          · right; exact ⟨rfl, rfl⟩
        have hall : ∀ z ∈ layL [t] k 0 [constT u], RightT S ar z := by
          rcases hks with ⟨_, e⟩ | ⟨_, e⟩ <;> rw [e] <;> simp <;> exact ⟨by assumption, by assumption⟩
        have hl2 : (layL [t] k 0 [constT u]).length = 2 := by rcases hks with ⟨_, e⟩ | ⟨_, e⟩ <;> rw [e] <;> rfl
        refine ⟨right_list (ok_two hj (by omega)) hall, cln_mk ?_, ?_, ?_⟩
        · rcases hks with ⟨_, e⟩ | ⟨_, e⟩ <;> rw [e] <;> simp <;> exact ⟨by first | exact hc | exact cln_nil, by first | exact hc | exact cln_nil⟩
        · refine ((eq_iff hS hj (right_app hj (by omega) hall) ht).2 ((pc_app hS hj (by omega) hall).trans ?_))
          rcases hks with ⟨_, e⟩ | ⟨_, e⟩ <;> rw [e] <;> simp [pc_const hS hj hu]
        · refine ⟨⟨5, k, 1, p.sym⟩, ?_⟩
          unfold stepN
          simp only [gath_app S hj, hu]
          rw [if_neg (by decide), if_pos ⟨trivial, inI_iff.2 ⟨k, by simp, by rw [len_mk]; omega⟩⟩, if_neg (by decide), if_neg (by decide), if_neg (by decide), if_pos (by decide)]
          unfold dropN
          simp only [Int.toNat_natCast, kids_mk, len_mk, hl2]
          rcases hks with ⟨rfl, e⟩ | ⟨rfl, e⟩ <;> rw [e] <;> simp [isConst_const]
      · rw [if_neg ha] at h; cases h
    · rw [if_neg hm1] at h
      by_cases hm0 : p.many = 0
      · rw [if_pos hm0] at h
        by_cases ha : headed p.sym t = true ∧ 0 ≤ p.at_ ∧ p.at_ ≤ lenF t.2
        · rw [if_pos ha] at h
          obtain ⟨rfl, rfl⟩ := Prod.mk.inj (Option.some.inj h)
          obtain ⟨k, hk⟩ : ∃ k : Nat, p.at_ = k := ⟨p.at_.toNat, by omega⟩
          rw [hk, Int.toNat_natCast]
          have hx := head_eq ha.1
          obtain ⟨x, F⟩ := t
          simp only at hx hc ha
          subst hx
          obtain ⟨h2, _, _⟩ := node_two ht (gath_app S hj)
          simp only at h2
          clear h
          show StepOk S ar ((noB, p.sym), F) ((noB, p.sym), mkF (layL (kidsL F) k 0 [constT u])) _
          have hrk : ∀ z ∈ kidsL F, RightT S ar z := right_kids.1 ht.2
          have hlen := kids_len F
          have hle : k + 0 ≤ (kidsL F).length := by omega
          have hl := lay_len (xs := [constT u]) hle
          simp only [List.length_singleton] at hl
          have hall : ∀ z ∈ layL (kidsL F) k 0 [constT u], RightT S ar z := fun z hz => by
            rcases lay_mem hz with hz | hz
            · exact hrk z hz
            · rw [List.mem_singleton] at hz; subst hz; exact hrc
          refine ⟨right_list (ok_two hj (by omega)) hall, cln_mk (fun z hz => ?_), ?_, ?_⟩
          · rcases lay_mem hz with hz | hz
            · exact cln_kids hc z hz
            · rw [List.mem_singleton] at hz; subst hz; exact cln_nil
          · have hself : ((noB, p.sym), F) = ((noB, p.sym), mkF (kidsL F)) := by rw [cln_mk_kids hc]
            refine Eq.trans ?_ (congrArg (canonT S) hself.symm)
            refine eq_kids hS hj (by omega) (by omega) hall hrk ?_
            unfold layL
            rw [Nat.add_zero, List.flatMap_append, List.flatMap_append]
            conv => rhs; rw [← List.take_append_drop k (kidsL F), List.flatMap_append]
            simp [pc_const hS hj hu]
          · refine ⟨⟨5, k, 0, p.sym⟩, ?_⟩
            unfold stepN
            simp only [gath_app S hj, hu]
            rw [if_neg (by decide), if_pos ⟨trivial, inI_iff.2 ⟨k, by simp, by rw [len_mk]; omega⟩⟩, if_neg (by decide), if_neg (by decide), if_neg (by decide), if_pos (by decide)]
            unfold dropN
            simp only [Int.toNat_natCast, kids_mk]
            have hget := lay_get (xs := [constT u]) (k := 0) hle (by simp)
            rw [Nat.add_zero] at hget
            rw [hget]
            simp only [List.getElem?_cons_zero]
            rw [if_pos (isConst_const u), if_neg (by rw [len_mk]; omega)]
            have := lay_back (xs := [constT u]) hle
            simp only [List.length_singleton, List.take_zero] at this
            rw [this, cln_mk_kids hc]
        · rw [if_neg ha] at h; cases h
      · rw [if_neg hm0] at h; cases h
theorem stepN_ok {S : Sg} {ar : Int → Nat} (hS : S.Ok ar) (hUJ : ∀ f u, S.unit f = some u → S.joins f = true) {t t' : Tn} {p q : Sp} (ht : RightT S ar t) (hc : Cln t.2) (h : stepN S t p = some (t', q)) : StepOk S ar t t' q := by
  unfold stepN at h
  by_cases h5 : p.kind = 5
  · rw [if_pos h5] at h; exact grow_ok hS hUJ ht hc h
  · rw [if_neg h5] at h
    by_cases hg : gathN S t = true ∧ inI p.at_ (lenF t.2) = true
    · rw [if_pos hg] at h
      by_cases h1 : p.kind = 1
      · rw [if_pos h1] at h; exact flat_ok hS ht hc hg.1 hg.2 h
      · rw [if_neg h1] at h
        by_cases h2 : p.kind = 2
        · rw [if_pos h2] at h; exact group_ok hS ht hc hg.1 hg.2 h
        · rw [if_neg h2] at h
          by_cases h3 : p.kind = 3
          · rw [if_pos h3] at h; exact swap_ok hS ht hc hg.1 hg.2 h
          · rw [if_neg h3] at h
            by_cases h4 : p.kind = 4
            · rw [if_pos h4] at h
              cases hu : S.unit t.1.2 with
              | none => rw [hu] at h; cases h
              | some u => rw [hu] at h; exact drop_ok hS ht hc hg.1 hg.2 hu h
            · rw [if_neg h4] at h; cases h
    · rw [if_neg hg] at h; cases h
end Go.Proofs.YtokbgbbkopmngaaGreat
