/- Texts laid together: CanQ, CanS, Plain, Leaf, SName, SVar, RVar, SigMem, TSig, TRChk, TRChkB, Find, Unit, Right, ChkPlain, SgOf, RJoins, TRCmp, RSort, RSorted. -/
import Derived.Laws.RangeAny
import Derived.Test.YtlemkgdbefmeeabRows
import Derived.WalkKit
import Derived.WalkSpells
import Derived.WalkLawsBesides
import Derived.Shelf.Small.Strs
import Derived.Sort.Walk0
import Derived.Laws.AppendOwnNone
import Derived.Test.YtlemkgdbefmeeabM0
/- Canonical forms, without any program: a canonical term is told by its parts; Canon of a right term is canonical; what the axioms and cancelling say. -/
namespace Go.Proofs.Ytlemkgdbefmeeab
open Go.RowKit Go.Deep

structure Good (S : Sg) (ar : Int → Nat) (f : Int) (p : Tn) : Prop where
  can : CanT S ar p
  unit : isUn S f p = false
  head : headed f p = false

theorem headed_iff {f : Int} {t : Tn} : headed f t = true ↔ noName t.1.1 = true ∧ t.1.2 = f := by
  unfold headed
  rw [Bool.and_eq_true, beq_iff_eq]
theorem isUn_some {S : Sg} {f : Int} {t : Tn} (h : isUn S f t = true) : ∃ u, S.unit f = some u ∧ t = constT u := by
  unfold isUn at h
  cases hu : S.unit f with
  | none => rw [hu] at h; cases h
  | some u =>
    rw [hu] at h
    dsimp only at h
    unfold isConst at h
    rw [Bool.and_eq_true, Bool.and_eq_true, beq_iff_eq, beq_iff_eq] at h
    obtain ⟨⟨h1, h2⟩, h3⟩ := h
    obtain ⟨⟨n, s⟩, l⟩ := t
    refine ⟨u, rfl, ?_⟩
    have e1 : n = noB := noName_eq h1
    have e2 : s = u := h2
    have e3 : l = .nil := len_nil h3
    rw [e1, e2, e3]
    rfl
theorem isUn_const {S : Sg} {f u : Int} (h : S.unit f = some u) : isUn S f (constT u) = true := by
  unfold isUn
  rw [h]
  dsimp only
  unfold isConst constT
  simp [noName_noB, lenF]
theorem can_head {S : Sg} {ar : Int → Nat} {f : Int} {t : Tn} (hj : S.joins f = true) (h : CanT S ar t) (hh : headed f t = true) : t.1 = (noB, f) ∧ 2 ≤ (kidsL t.2).length ∧ Srt (kidsL t.2) ∧ ∀ k ∈ kidsL t.2, Good S ar f k := by
  obtain ⟨h1, h2⟩ := headed_iff.1 hh
  have hc := h.1
  unfold can1 at hc
  rw [if_neg (by rw [h1]; simp), h2, if_pos hj] at hc
  obtain ⟨c1, c2, c3, c4⟩ := hc
  exact ⟨Prod.ext c1 h2, c2, c3, fun k hk => ⟨can_kids h.2 k hk, (c4 k hk).1, (c4 k hk).2⟩⟩
theorem parts_good {S : Sg} {ar : Int → Nat} {f : Int} {t : Tn} (hj : S.joins f = true) (h : CanT S ar t) : ∀ p ∈ partsN S f t, Good S ar f p := by
  unfold partsN
  rw [if_neg (by simp [hj])]
  cases hu : isUn S f t with
  | true => simp
  | false =>
    cases hh : headed f t with
    | true => simpa using (can_head hj h hh).2.2.2
    | false =>
      intro p hp
      simp at hp
      subst hp
      exact ⟨h, hu, hh⟩
theorem parts_of_good {S : Sg} {ar : Int → Nat} {f : Int} {t : Tn} (h : Good S ar f t) : partsN S f t = [t] := by
  unfold partsN
  rw [h.unit, h.head]
  split <;> simp
theorem parts_nil {S : Sg} {ar : Int → Nat} {f : Int} {t : Tn} (hj : S.joins f = true) (h : CanT S ar t) (hp : partsN S f t = []) : ∃ u, S.unit f = some u := by
  unfold partsN at hp
  rw [if_neg (by simp [hj])] at hp
  cases hu : isUn S f t with
  | true => obtain ⟨u, h1, _⟩ := isUn_some hu; exact ⟨u, h1⟩
  | false =>
    rw [hu] at hp
    cases hh : headed f t with
    | true =>
      rw [hh] at hp
      simp only [Bool.false_eq_true, if_false, if_true] at hp
      have := (can_head hj h hh).2.1
      rw [hp] at this
      simp at this
    | false => rw [hh] at hp; simp at hp
theorem join_many (S : Sg) (f : Int) {l : List Tn} (h : 2 ≤ l.length) : joinL S f l = some ((noB, f), mkF (sortN l)) := by
  match l, h with
  | _ :: _ :: _, _ => rfl
theorem join_can {S : Sg} {ar : Int → Nat} (hS : S.Ok ar) {f : Int} {l : List Tn} {t : Tn} (hj : S.joins f = true) (hl : ∀ p ∈ l, Good S ar f p) (h : joinL S f l = some t) : CanT S ar t := by
  match l, hl, h with
  | [], _, h =>
    simp only [joinL, Option.map_eq_some_iff] at h
    obtain ⟨u, hu, rfl⟩ := h
    refine ⟨?_, trivial⟩
    unfold can1 constT
    dsimp only
    rw [if_neg (by simp [noName_noB]), hS.free f u hu]
    simp [kidsL, hS.none f u hu]
  | [a], hl, h =>
    simp only [joinL, Option.some.injEq] at h
    subst h
    exact (hl a (by simp)).can
  | a :: b :: r, hl, h =>
    simp only [joinL, Option.some.injEq] at h
    subst h
    have hm : ∀ k ∈ sortN (a :: b :: r), Good S ar f k := fun k hk => hl k ((sortN_perm _).mem_iff.1 hk)
    refine ⟨?_, can_mk (fun k hk => (hm k hk).can)⟩
    unfold can1
    dsimp only
    rw [if_neg (by simp [noName_noB]), if_pos hj, kids_mk]
    exact ⟨rfl, by rw [sortN_len]; simp, sortN_srt _, fun k hk => ⟨(hm k hk).unit, (hm k hk).head⟩⟩
theorem parts_join {S : Sg} {ar : Int → Nat} {f : Int} {l : List Tn} {t : Tn} (hj : S.joins f = true) (hl : ∀ p ∈ l, Good S ar f p) (h : joinL S f l = some t) : List.Perm (partsN S f t) l := by
  match l, hl, h with
  | [], _, h =>
    simp only [joinL, Option.map_eq_some_iff] at h
    obtain ⟨u, hu, rfl⟩ := h
    unfold partsN
    rw [if_neg (by simp [hj]), isUn_const hu]
    simp
  | [a], hl, h =>
    simp only [joinL, Option.some.injEq] at h
    subst h
    rw [parts_of_good (hl a (by simp))]
  | a :: b :: r, hl, h =>
    simp only [joinL, Option.some.injEq] at h
    subst h
    have hu : isUn S f ((noB, f), mkF (sortN (a :: b :: r))) = false := by
      cases hq : isUn S f ((noB, f), mkF (sortN (a :: b :: r))) with
      | false => rfl
      | true =>
        obtain ⟨u, _, e⟩ := isUn_some hq
        have := congrArg (fun t : Tn => lenF t.2) e
        simp only [constT, len_mk, sortN_len, lenF, List.length_cons] at this
        omega
    have hh : headed f ((noB, f), mkF (sortN (a :: b :: r))) = true := headed_iff.2 ⟨noName_noB, rfl⟩
    unfold partsN
    rw [if_neg (by simp [hj]), hu, hh]
    simp only [Bool.false_eq_true, if_false, if_true, kids_mk]
    exact sortN_perm _
theorem join_parts {S : Sg} {ar : Int → Nat} {f : Int} {t : Tn} (hj : S.joins f = true) (h : CanT S ar t) : joinL S f (partsN S f t) = some t := by
  unfold partsN
  rw [if_neg (by simp [hj])]
  cases hu : isUn S f t with
  | true =>
    obtain ⟨u, h1, rfl⟩ := isUn_some hu
    simp [joinL, h1]
  | false =>
    cases hh : headed f t with
    | true =>
      obtain ⟨c1, c2, c3, c4⟩ := can_head hj h hh
      simp only [Bool.false_eq_true, if_false, if_true]
      rw [join_many S f c2, sort_self (fun k hk => (c4 k hk).can) c3, can_mk_kids h.2, ← c1]
    | false => simp [joinL]
theorem join_perm {S : Sg} {ar : Int → Nat} {f : Int} {l m : List Tn} (hl : ∀ p ∈ l, CanT S ar p) (h : List.Perm l m) : joinL S f l = joinL S f m := by
  have hlen := h.length_eq
  match l, m, hlen, hl, h with
  | [], [], _, _, _ => rfl
  | [a], [b], _, _, h => rw [show a = b by simpa using h]
  | a :: b :: r, c :: d :: s, _, hl, h => simp only [joinL]; rw [sort_eq hl h]
/-- A canonical term is told by its parts. -/
theorem parts_inj {S : Sg} {ar : Int → Nat} {f : Int} {x y : Tn} (hj : S.joins f = true) (hx : CanT S ar x) (hy : CanT S ar y) (h : List.Perm (partsN S f x) (partsN S f y)) : x = y := by
  have h1 := join_parts hj hx
  rw [join_perm (fun p hp => (parts_good hj hx p hp).can) h, join_parts hj hy] at h1
  exact (Option.some.inj h1).symm

/-! ### Canon is canonical -/
theorem flat_good {S : Sg} {ar : Int → Nat} {f : Int} {cs : List Tn} (hj : S.joins f = true) (hc : ∀ c ∈ cs, CanT S ar c) : ∀ p ∈ cs.flatMap (partsN S f), Good S ar f p := fun p hp => by
  obtain ⟨c, h1, h2⟩ := List.mem_flatMap.1 hp
  exact parts_good hj (hc c h1) p h2
theorem join_some {S : Sg} {ar : Int → Nat} {f : Int} {cs : List Tn} (hj : S.joins f = true) (hc : ∀ c ∈ cs, CanT S ar c) (hn : cs ≠ []) : ∃ t, joinL S f (cs.flatMap (partsN S f)) = some t := by
  match hq : cs.flatMap (partsN S f) with
  | [] =>
    match cs, hn, hc with
    | c :: _, _, hc =>
      simp only [List.flatMap_cons, List.append_eq_nil_iff] at hq
      obtain ⟨u, hu⟩ := parts_nil hj (hc c (by simp)) hq.1
      exact ⟨constT u, by simp [joinL, hu]⟩
  | [a] => exact ⟨a, rfl⟩
  | a :: b :: r => exact ⟨_, rfl⟩
theorem canon1_join {S : Sg} {ar : Int → Nat} {x : ByteArray × Int} {cs : List Tn} (hx : noName x.1 = true) (hj : S.joins x.2 = true) (hc : ∀ c ∈ cs, CanT S ar c) (hn : cs ≠ []) : joinL S x.2 (cs.flatMap (partsN S x.2)) = some (canon1 S x cs) := by
  obtain ⟨t, ht⟩ := join_some hj hc hn
  unfold canon1 joinN
  rw [if_neg (by simp [hx]), if_pos hj, if_neg (by simp [hj]), ht]
  rfl
theorem canon1_can {S : Sg} {ar : Int → Nat} (hS : S.Ok ar) {x : ByteArray × Int} {cs : List Tn} (hn : nodeOk S ar x cs.length) (hc : ∀ c ∈ cs, CanT S ar c) : CanT S ar (canon1 S x cs) := by
  unfold nodeOk at hn
  cases hx : noName x.1 with
  | false =>
    unfold canon1
    rw [if_pos hx]
    refine ⟨?_, trivial⟩
    unfold can1
    rw [if_pos hx]
    exact ⟨rfl, rfl⟩
  | true =>
    rw [if_neg (by simp [hx])] at hn
    cases hj : S.joins x.2 with
    | true =>
      rw [if_pos hj] at hn
      have hne : cs ≠ [] := fun e => by rw [e] at hn; simp at hn
      exact join_can hS hj (flat_good hj hc) (canon1_join hx hj hc hne)
    | false =>
      rw [if_neg (by simp [hj])] at hn
      unfold canon1
      rw [if_neg (by simp [hx]), if_neg (by simp [hj])]
      refine ⟨?_, can_mk hc⟩
      unfold can1
      dsimp only
      rw [if_neg (by simp [noName_noB]), if_neg (by simp [hj]), kids_mk]
      exact ⟨rfl, hn⟩
theorem canonL_can {S : Sg} {ar : Int → Nat} (hS : S.Ok ar) : ∀ {F : Fo}, RightF S ar F → ∀ c ∈ canonL S F, CanT S ar c
  | .nil, _, _, h => by simp [canonL] at h
  | .node _ _ x l r, ⟨⟨h1, h2⟩, h3⟩, c, hc => by
    simp only [canonL, List.mem_cons] at hc
    rcases hc with rfl | hc
    · exact canon1_can hS (by rw [canonL_map, List.length_map, kids_len]; exact h1) (canonL_can hS h2)
    · exact canonL_can hS h3 c hc
theorem canonT_can {S : Sg} {ar : Int → Nat} (hS : S.Ok ar) {t : Tn} (h : RightT S ar t) : CanT S ar (canonT S t) :=
  canon1_can hS (by rw [canonL_map, List.length_map, kids_len]; exact h.1) (canonL_can hS h.2)

/-! ### a canonical term is its own form -/
theorem flat_self {S : Sg} {ar : Int → Nat} {f : Int} : ∀ {l : List Tn}, (∀ p ∈ l, Good S ar f p) → l.flatMap (partsN S f) = l
  | [], _ => rfl
  | a :: r, h => by rw [List.flatMap_cons, parts_of_good (h a (by simp)), flat_self (fun p hp => h p (by simp [hp]))]; rfl
theorem canon1_id {S : Sg} {ar : Int → Nat} {x : ByteArray × Int} {l : Fo} (h : can1 S ar x (kidsL l)) (hl : CanF S ar l) : canon1 S x (kidsL l) = (x, l) := by
  cases hx : noName x.1 with
  | false =>
    unfold can1 at h
    rw [if_pos hx] at h
    unfold canon1
    rw [if_pos hx]
    have e : l = .nil := len_nil (by rw [← kids_len, h.2]; rfl)
    rw [e, ← h.1]
  | true =>
    cases hj : S.joins x.2 with
    | true =>
      have hc : CanT S ar (x, l) := ⟨h, hl⟩
      obtain ⟨c1, c2, c3, c4⟩ := can_head hj hc (headed_iff.2 ⟨hx, rfl⟩)
      have hne : kidsL l ≠ [] := fun e => by rw [e] at c2; simp at c2
      have h1 := canon1_join hx hj (can_kids hl) hne
      rw [flat_self c4, join_many S x.2 c2, sort_self (fun k hk => (c4 k hk).can) c3, can_mk_kids hl, Option.some.injEq] at h1
      rw [← h1, ← show x = (noB, x.2) from c1]
    | false =>
      unfold can1 at h
      rw [if_neg (by simp [hx])] at h
      unfold canon1
      rw [if_neg (by simp [hx]), if_neg (by simp [hj]), can_mk_kids hl]
      exact Prod.ext (Prod.ext h.1.symm rfl) rfl
theorem canonL_id {S : Sg} {ar : Int → Nat} : ∀ {F : Fo}, CanF S ar F → canonL S F = kidsL F
  | .nil, _ => rfl
  | .node _ _ x l r, ⟨_, ⟨h1, h2⟩, h3⟩ => by
    simp only [canonL, kidsL]
    rw [canonL_id h2, canonL_id h3, canon1_id h1 h2]
theorem canonT_id {S : Sg} {ar : Int → Nat} {t : Tn} (h : CanT S ar t) : canonT S t = t := by
  unfold canonT
  rw [canonL_id h.2, canon1_id h.1 h.2]
theorem right_of_can1 {S : Sg} {ar : Int → Nat} {x : ByteArray × Int} {l : Fo} (h : can1 S ar x (kidsL l)) : nodeOk S ar x (lenF l) := by
  unfold can1 at h
  unfold nodeOk
  cases hx : noName x.1 with
  | false =>
    rw [if_pos hx] at h
    rw [if_pos rfl]
    exact ⟨h.1, by rw [← kids_len, h.2]; rfl⟩
  | true =>
    rw [if_neg (by simp [hx])] at h
    rw [if_neg (by simp)]
    cases hj : S.joins x.2 with
    | true => rw [if_pos hj] at h; rw [if_pos rfl, ← kids_len]; exact h.2.1
    | false => rw [if_neg (by simp [hj])] at h; rw [if_neg (by simp), ← kids_len]; exact h.2
theorem right_of_canF {S : Sg} {ar : Int → Nat} : ∀ {F : Fo}, CanF S ar F → RightF S ar F
  | .nil, _ => trivial
  | .node _ _ _ _ _, ⟨_, ⟨h1, h2⟩, h3⟩ => ⟨⟨right_of_can1 h1, right_of_canF h2⟩, right_of_canF h3⟩
theorem right_of_can {S : Sg} {ar : Int → Nat} {t : Tn} (h : CanT S ar t) : RightT S ar t := ⟨right_of_can1 h.1, right_of_canF h.2⟩
theorem canonT_twice {S : Sg} {ar : Int → Nat} (hS : S.Ok ar) {t : Tn} (h : RightT S ar t) : canonT S (canonT S t) = canonT S t := canonT_id (canonT_can hS h)
/-- Written alike, just if they are one. -/
theorem same_iff {S : Sg} {ar : Int → Nat} (hS : S.Ok ar) {a b : Tn} (ha : RightT S ar a) (hb : RightT S ar b) : cmpN (canonT S a) (canonT S b) = 0 ↔ canonT S a = canonT S b :=
  ⟨canT_zero (canonT_can hS ha) (canonT_can hS hb), fun e => by rw [e]; have := cmpN_anti (canonT S b) (canonT S b); omega⟩
end Go.Proofs.Ytlemkgdbefmeeab
/- Canonical forms, without any program: no more nodes, the same variables, parts in order and joined again. -/
namespace Go.Proofs.Ytlemkgdbefmeeab
open Go.RowKit Go.Deep

/-! ### how many nodes -/
def sizeT (t : Tn) : Nat := nodesF t.2 + 1
def sizes (l : List Tn) : Nat := (l.map sizeT).sum
theorem sizes_nil : sizes [] = 0 := rfl
theorem sizes_cons (t : Tn) (l : List Tn) : sizes (t :: l) = sizeT t + sizes l := by simp [sizes]
theorem sizes_append : ∀ l m : List Tn, sizes (l ++ m) = sizes l + sizes m
  | [], _ => by simp [sizes_nil]
  | t :: l, m => by rw [List.cons_append, sizes_cons, sizes_cons, sizes_append l m]; omega
theorem sizes_perm {l m : List Tn} (h : List.Perm l m) : sizes l = sizes m := by
  induction h with
  | nil => rfl
  | cons x _ ih => rw [sizes_cons, sizes_cons, ih]
  | swap x y l => simp only [sizes_cons]; omega
  | trans _ _ h1 h2 => exact h1.trans h2
theorem nodes_sizes : ∀ F : Fo, nodesF F = sizes (kidsL F)
  | .nil => rfl
  | .node _ _ x l r => by
    rw [kidsL, sizes_cons, ← nodes_sizes r]
    simp only [nodesF, sizeT]
    omega
theorem nodes_mk (l : List Tn) : nodesF (mkF l) = sizes l := by rw [nodes_sizes, kids_mk]
theorem parts_size (S : Sg) (f : Int) (t : Tn) : sizes (partsN S f t) ≤ sizeT t := by
  unfold partsN
  split
  · simp [sizes_cons, sizes_nil]
  · split
    · simp [sizes_nil]
    · split
      · rw [← nodes_sizes]; unfold sizeT; omega
      · simp [sizes_cons, sizes_nil]
theorem flat_size (S : Sg) (f : Int) : ∀ cs : List Tn, sizes (cs.flatMap (partsN S f)) ≤ sizes cs
  | [] => Nat.le_refl _
  | c :: r => by
    rw [List.flatMap_cons, sizes_append, sizes_cons]
    have := parts_size S f c
    have := flat_size S f r
    omega
theorem join_size {S : Sg} {f : Int} {l : List Tn} {t : Tn} (h : joinL S f l = some t) : sizeT t ≤ sizes l + 1 := by
  match l, h with
  | [], h =>
    simp only [joinL, Option.map_eq_some_iff] at h
    obtain ⟨u, _, rfl⟩ := h
    simp [sizeT, constT, nodesF]
  | [a], h =>
    simp only [joinL, Option.some.injEq] at h
    subst h
    simp [sizes_cons, sizes_nil]
  | a :: b :: r, h =>
    simp only [joinL, Option.some.injEq] at h
    subst h
    show nodesF (mkF (sortN (a :: b :: r))) + 1 ≤ _
    rw [nodes_mk, sizes_perm (sortN_perm _)]
    exact Nat.le_refl _
theorem canon1_size (S : Sg) (x : ByteArray × Int) (cs : List Tn) : sizeT (canon1 S x cs) ≤ sizes cs + 1 := by
  unfold canon1
  split
  · simp [sizeT, nodesF]
  · split
    · unfold joinN
      split
      · simp [sizeT, constT, nodesF]
      · cases h : joinL S x.2 (cs.flatMap (partsN S x.2)) with
        | none => simp [sizeT, constT, nodesF]
        | some t =>
          have := join_size h
          have := flat_size S x.2 cs
          simp only [Option.getD_some]
          omega
    · show nodesF (mkF cs) + 1 ≤ _
      rw [nodes_mk]
      exact Nat.le_refl _
theorem canonL_size (S : Sg) : ∀ F : Fo, sizes (canonL S F) ≤ nodesF F
  | .nil => Nat.le_refl _
  | .node _ _ x l r => by
    rw [canonL, sizes_cons, nodesF]
    have := canon1_size S x (canonL S l)
    have := canonL_size S l
    have := canonL_size S r
    omega
theorem canonT_size (S : Sg) (t : Tn) : nodesF (canonT S t).2 + 1 ≤ nodesF t.2 + 1 := by
  have := canon1_size S t.1 (canonL S t.2)
  have := canonL_size S t.2
  show sizeT (canonT S t) ≤ _
  unfold canonT
  omega

/-! ### which variables -/
def inF (nm : List UInt8) : Fo → Prop
  | .nil => False
  | .node _ _ x l r => ((noName x.1 = false ∧ x.1.data.toList = nm) ∨ inF nm l) ∨ inF nm r
def inT (nm : List UInt8) (t : Tn) : Prop := (noName t.1.1 = false ∧ t.1.1.data.toList = nm) ∨ inF nm t.2
theorem inF_kids {nm : List UInt8} : ∀ {F : Fo}, inF nm F ↔ ∃ k ∈ kidsL F, inT nm k
  | .nil => by simp [inF, kidsL]
  | .node _ _ x l r => by
    rw [inF, inF_kids (F := r), kidsL]
    constructor
    · rintro (h | ⟨k, hk, h⟩)
      · exact ⟨(x, l), by simp, h⟩
      · exact ⟨k, by simp [hk], h⟩
    · rintro ⟨k, hk, h⟩
      rcases List.mem_cons.1 hk with rfl | hk
      · exact .inl h
      · exact .inr ⟨k, hk, h⟩
theorem inT_none {nm : List UInt8} {f : Int} {l : Fo} : inT nm ((noB, f), l) ↔ inF nm l := by
  unfold inT
  simp [noName_noB]
theorem parts_in {S : Sg} {ar : Int → Nat} {f : Int} {c : Tn} {nm : List UInt8} (hj : S.joins f = true) (h : CanT S ar c) : inT nm c ↔ ∃ p ∈ partsN S f c, inT nm p := by
  unfold partsN
  rw [if_neg (by simp [hj])]
  cases hu : isUn S f c with
  | true =>
    obtain ⟨u, _, rfl⟩ := isUn_some hu
    unfold constT
    rw [inT_none]
    simp [inF]
  | false =>
    cases hh : headed f c with
    | true =>
      obtain ⟨c1, _, _, _⟩ := can_head hj h hh
      obtain ⟨x, l⟩ := c
      dsimp only at c1
      subst c1
      rw [inT_none, inF_kids]
      simp
    | false => simp
theorem join_in {S : Sg} {f : Int} {l : List Tn} {t : Tn} {nm : List UInt8} (h : joinL S f l = some t) : inT nm t ↔ ∃ p ∈ l, inT nm p := by
  match l, h with
  | [], h =>
    simp only [joinL, Option.map_eq_some_iff] at h
    obtain ⟨u, _, rfl⟩ := h
    unfold constT
    rw [inT_none]
    simp [inF]
  | [a], h =>
    simp only [joinL, Option.some.injEq] at h
    subst h
    simp
  | a :: b :: r, h =>
    simp only [joinL, Option.some.injEq] at h
    subst h
    rw [inT_none, inF_kids, kids_mk]
    constructor
    · rintro ⟨k, hk, h⟩; exact ⟨k, (sortN_perm _).mem_iff.1 hk, h⟩
    · rintro ⟨k, hk, h⟩; exact ⟨k, (sortN_perm _).mem_iff.2 hk, h⟩
theorem canon1_in {S : Sg} {ar : Int → Nat} {x : ByteArray × Int} {l : Fo} {cs : List Tn} {nm : List UInt8} (hn : nodeOk S ar x (lenF l)) (hl : cs.length = lenF l) (hc : ∀ c ∈ cs, CanT S ar c) (h : (∃ c ∈ cs, inT nm c) ↔ inF nm l) : inT nm (canon1 S x cs) ↔ inT nm (x, l) := by
  unfold nodeOk at hn
  cases hx : noName x.1 with
  | false =>
    rw [if_pos hx] at hn
    have e : l = .nil := len_nil hn.2
    subst e
    unfold canon1
    rw [if_pos hx]
    unfold inT
    simp [inF]
  | true =>
    have ex : x = (noB, x.2) := Prod.ext (noName_eq hx) rfl
    rw [if_neg (by simp [hx])] at hn
    have h2 : inT nm (x, l) ↔ inF nm l := by rw [ex]; exact inT_none
    rw [h2, ← h]
    cases hj : S.joins x.2 with
    | true =>
      rw [if_pos hj] at hn
      have hne : cs ≠ [] := fun e => by rw [e] at hl; simp at hl; omega
      rw [join_in (canon1_join hx hj hc hne)]
      constructor
      · rintro ⟨p, hp, hi⟩
        obtain ⟨c, h3, h4⟩ := List.mem_flatMap.1 hp
        exact ⟨c, h3, (parts_in hj (hc c h3)).2 ⟨p, h4, hi⟩⟩
      · rintro ⟨c, h3, hi⟩
        obtain ⟨p, h4, h5⟩ := (parts_in hj (hc c h3)).1 hi
        exact ⟨p, List.mem_flatMap.2 ⟨c, h3, h4⟩, h5⟩
    | false =>
      unfold canon1
      rw [if_neg (by simp [hx]), if_neg (by simp [hj]), inT_none, inF_kids, kids_mk]
theorem canonL_in {S : Sg} {ar : Int → Nat} (hS : S.Ok ar) {nm : List UInt8} : ∀ {F : Fo}, RightF S ar F → ((∃ c ∈ canonL S F, inT nm c) ↔ inF nm F)
  | .nil, _ => by simp [canonL, inF]
  | .node _ _ x l r, ⟨⟨h1, h2⟩, h3⟩ => by
    have e := canon1_in h1 (by rw [canonL_map, List.length_map, kids_len]) (canonL_can hS h2) (canonL_in hS (nm := nm) h2)
    rw [inF, ← canonL_in hS h3, canonL]
    constructor
    · rintro ⟨c, hc, hi⟩
      rcases List.mem_cons.1 hc with rfl | hc
      · exact .inl (e.1 hi)
      · exact .inr ⟨c, hc, hi⟩
    · rintro (h | ⟨c, hc, hi⟩)
      · exact ⟨_, List.mem_cons_self, e.2 h⟩
      · exact ⟨c, List.mem_cons_of_mem _ hc, hi⟩
theorem canonT_in {S : Sg} {ar : Int → Nat} (hS : S.Ok ar) {nm : List UInt8} {t : Tn} (h : RightT S ar t) : inT nm (canonT S t) ↔ inT nm t :=
  canon1_in h.1 (by rw [canonL_map, List.length_map, kids_len]) (canonL_can hS h.2) (canonL_in hS h.2)

/-! ### parts, in order and joined again -/
theorem parts_srt {S : Sg} {ar : Int → Nat} {f : Int} {t : Tn} (hj : S.joins f = true) (h : CanT S ar t) : Srt (partsN S f t) := by
  unfold partsN
  rw [if_neg (by simp [hj])]
  cases isUn S f t with
  | true => simp
  | false =>
    cases hh : headed f t with
    | true => simpa using (can_head hj h hh).2.2.1
    | false => simp
theorem map_can {S : Sg} {ar : Int → Nat} {l : List Tn} (h : ∀ p ∈ l, CanT S ar p) : l.map (canonT S) = l := by
  induction l with
  | nil => rfl
  | cons a r ih => rw [List.map_cons, canonT_id (h a (by simp)), ih (fun p hp => h p (by simp [hp]))]
/-- Join of a canonical term's parts. -/
theorem join_back {S : Sg} {ar : Int → Nat} {f : Int} {t : Tn} (hj : S.joins f = true) (h : CanT S ar t) : joinN S f ((partsN S f t).map (canonT S)) = some t := by
  rw [map_can (fun p hp => (parts_good hj h p hp).can)]
  unfold joinN
  rw [if_neg (by simp [hj]), flat_self (parts_good hj h)]
  exact join_parts hj h
/-- Join of the parts of two. -/
theorem join_two {S : Sg} {ar : Int → Nat} {f : Int} {a b : Tn} (hj : S.joins f = true) (ha : CanT S ar a) (hb : CanT S ar b) : joinN S f ((partsN S f a ++ partsN S f b).map (canonT S)) = joinL S f (partsN S f a ++ partsN S f b) := by
  have hg : ∀ p ∈ partsN S f a ++ partsN S f b, Good S ar f p := fun p hp => by
    rcases List.mem_append.1 hp with h | h
    · exact parts_good hj ha p h
    · exact parts_good hj hb p h
  rw [map_can (fun p hp => (hg p hp).can)]
  unfold joinN
  rw [if_neg (by simp [hj]), flat_self hg]
end Go.Proofs.Ytlemkgdbefmeeab
/- The plain functions of layer 1 (names of symbols and of variables, over bytes), without any program. -/
namespace Go.Proofs.Ytlemkgdbefmeeab

def lowZ (r : Int) : Bool := decide (97 ≤ r) && decide (r ≤ 122)
def upZ (r : Int) : Bool := decide (65 ≤ r) && decide (r ≤ 90)
def digZ (r : Int) : Bool := decide (48 ≤ r) && decide (r ≤ 57)
def fitsB (s : ByteArray) : Bool := decide (1 ≤ s.size) && decide (s.size ≤ 12)
/-- The byte at a place, 0 where there is none. -/
def bt (s : ByteArray) (j : Nat) : Int := if h : j < s.size then ((s[j]'h).toNat : Int) else 0
def okName (j : Nat) (c : Int) : Bool := lowZ c || (decide (1 ≤ j) && digZ c)
def okVar (j : Nat) (c : Int) : Bool := upZ c || (decide (1 ≤ j) && (lowZ c || digZ c))
def okNum (j : Nat) (c : Int) : Bool := (decide (j = 0) && decide (c = 95)) || (decide (j = 1) && digZ c && decide (c ≠ 48)) || (decide (2 ≤ j) && digZ c)
def allB (p : Nat → Int → Bool) (s : ByteArray) (n : Nat) : Bool := (List.range n).all fun j => p j (bt s j)
def nameB (s : ByteArray) : Bool := fitsB s && allB okName s s.size
def writtenB (s : ByteArray) : Bool := allB okVar s s.size
def numberedB (s : ByteArray) : Bool := decide (2 ≤ s.size) && allB okNum s s.size
def varB (s : ByteArray) : Bool := fitsB s && (writtenB s || numberedB s)

theorem bt_of {s : ByteArray} {j : Nat} (h : j < s.size) : bt s j = ((s[j]'h).toNat : Int) := by simp [bt, h]
theorem bt_range (s : ByteArray) (j : Nat) : 0 ≤ bt s j ∧ bt s j ≤ 255 := by
  unfold bt
  split
  · rename_i h; have := (s[j]'h).toNat_lt; omega
  · omega
theorem allB_succ (p : Nat → Int → Bool) (s : ByteArray) (n : Nat) : allB p s (n + 1) = (allB p s n && p n (bt s n)) := by
  simp [allB, List.range_succ]
theorem allB_zero (p : Nat → Int → Bool) (s : ByteArray) : allB p s 0 = true := by simp [allB]
theorem allB_iff (p : Nat → Int → Bool) (s : ByteArray) (n : Nat) : allB p s n = true ↔ ∀ j, j < n → p j (bt s j) = true := by
  simp [allB]
theorem allB_false {p : Nat → Int → Bool} {s : ByteArray} {n k : Nat} (hk : k < n) (h : p k (bt s k) = false) : allB p s n = false := by
  cases e : allB p s n with
  | false => rfl
  | true => rw [(allB_iff p s n).1 e k hk] at h; cases h

end Go.Proofs.Ytlemkgdbefmeeab
/- What the smallest functions of layer 1 answer: letters, digits, lengths. -/
namespace Go.Proofs.Ytlemkgdbefmeeab
open Go.RowKit

theorem rlow_any (r : Int) (w : World) : Calls Try.prog 65 #[.int .u8 r] w fun e w' => e = .returned (.bool (lowZ r)) ∧ w' = w := by
  by_cases h : 97 ≤ r
  · go_enter Try.func65, Try.ntmps65
    go_wp2
    go_ret
    exact ⟨by simp [lowZ, h], rfl⟩
  · go_enter Try.func65, Try.ntmps65
    go_wp2
    go_ret
    exact ⟨by simp [lowZ]; omega, rfl⟩

theorem rdigit_any (r : Int) (w : World) : Calls Try.prog 63 #[.int .u8 r] w fun e w' => e = .returned (.bool (digZ r)) ∧ w' = w := by
  by_cases h : 48 ≤ r
  · go_enter Try.func63, Try.ntmps63
    go_wp2
    go_ret
    exact ⟨by simp [digZ, h], rfl⟩
  · go_enter Try.func63, Try.ntmps63
    go_wp2
    go_ret
    exact ⟨by simp [digZ]; omega, rfl⟩

theorem rup_any (r : Int) (w : World) : Calls Try.prog 64 #[.int .u8 r] w fun e w' => e = .returned (.bool (upZ r)) ∧ w' = w := by
  by_cases h : 65 ≤ r
  · go_enter Try.func64, Try.ntmps64
    go_wp2
    go_ret
    exact ⟨by simp [upZ, h], rfl⟩
  · go_enter Try.func64, Try.ntmps64
    go_wp2
    go_ret
    exact ⟨by simp [upZ]; omega, rfl⟩

theorem fits_hi {s : ByteArray} (h : 1 ≤ (s.size : Int)) : fitsB s = decide ((s.size : Int) ≤ 12) := by
  rw [Bool.eq_iff_iff]; simp [fitsB]; omega
end Go.Proofs.Ytlemkgdbefmeeab
/- What Name of package sig answers of any text: it goes through the runes. -/
namespace Go.Proofs.Ytlemkgdbefmeeab
open Go.RowKit

theorem okName_high {j : Nat} {c : Int} (h : 128 ≤ c) : okName j c = false := by
  simp [okName, lowZ, digZ]; omega
theorem okVar_high {j : Nat} {c : Int} (h : 128 ≤ c) : okVar j c = false := by
  simp [okVar, lowZ, digZ, upZ]; omega
theorem lowZ_high {c : Int} (h : 128 ≤ c) : lowZ c = false := by simp [lowZ]; omega
theorem upZ_high {c : Int} (h : 128 ≤ c) : upZ c = false := by simp [upZ]; omega
theorem digZ_high {c : Int} (h : 128 ≤ c) : digZ c = false := by simp [digZ]; omega
theorem below_iter (w : World) (s : ByteArray) (p : Nat) : Below w.heap.size w (w.iter s p) := (Below.refl _ _).alloc (Nat.le_refl _) _

end Go.Proofs.Ytlemkgdbefmeeab
/- What Var of package sig answers of any text: it goes through the runes. -/
namespace Go.Proofs.Ytlemkgdbefmeeab
open Go.RowKit

theorem ext_size (s : ByteArray) : (s.extract 1 s.size).size = s.size - 1 := by simp
theorem ext_at (s : ByteArray) (j : Nat) (h : j < (s.extract 1 s.size).size) (h' : j + 1 < s.size) : (s.extract 1 s.size)[j]'h = s[j + 1]'h' := by
  rw [ByteArray.getElem_extract]; congr 1; omega
theorem numbered_no {s : ByteArray} (k : Nat) (hk : k < s.size) (h : okNum k ((s[k]'hk).toNat : Int) = false) : numberedB s = false := by
  unfold numberedB; rw [allB_false hk (by rw [bt_of hk]; exact h)]; simp
theorem okNum_high {j : Nat} {c : Int} (h : 128 ≤ c) : okNum j c = false := by
  simp [okNum, digZ]; omega

end Go.Proofs.Ytlemkgdbefmeeab
/- What the document's Var answers of any text. -/
namespace Go.Proofs.Ytlemkgdbefmeeab
open Go.RowKit

theorem var_num {s : ByteArray} (hf : fitsB s = true) (hp : 0 < s.size) (h : ((s[0]'hp).toNat : Int) = 95) : varB s = numberedB s := by
  unfold varB writtenB
  rw [hf, allB_false hp (by rw [bt_of hp, h]; rfl)]; simp
theorem var_writ {s : ByteArray} (hf : fitsB s = true) (hp : 0 < s.size) (h : ((s[0]'hp).toNat : Int) ≠ 95) : varB s = writtenB s := by
  unfold varB
  rw [hf, numbered_no 0 hp (by simp [okNum, h])]; simp
theorem okNum_two {j : Nat} {c : Int} (h : 2 ≤ j) : okNum j c = digZ c := by
  have h0 : ¬ j = 0 := by omega
  have h1 : ¬ j = 1 := by omega
  simp [okNum, h, h0, h1]

set_option maxHeartbeats 800000 in
theorem rvar_any (s : ByteArray) (w : World) (hs : s.size ≤ maxLen) : Calls Try.prog 47 #[.string s] w fun e w' => e = .returned (.bool (varB s)) ∧ w' = w := by
  unfold maxLen at hs
  by_cases h0 : (s.size : Int) < 1
  · go_enter Try.func47, Try.ntmps47
    go_wp2
    go_ret
    exact ⟨by simp [varB, fitsB]; omega, rfl⟩
  · by_cases h1 : 12 < (s.size : Int)
    · go_enter Try.func47, Try.ntmps47
      go_wp2
      go_ret
      exact ⟨by simp [varB, fitsB]; omega, rfl⟩
    · have hp : 0 < s.size := by omega
      have hfit : Hid (fitsB s = true) := by show fitsB s = true; simp [fitsB]; omega
      cases hu : (((s[0]'hp).toNat : Int) == 95)
      · have hu' : Hid (((s[0]'hp).toNat : Int) ≠ 95) := by show _ ≠ _; simpa using hu
        have hv : Hid (varB s = writtenB s) := var_writ hfit.out hp hu'.out
        cases hl : upZ ((s[0]'hp).toNat : Int)
        · have hbad : Hid (varB s = false) := by
            show varB s = false
            rw [hv.out]; unfold writtenB
            rw [allB_false hp (by rw [bt_of hp]; simp [okVar, hl])]
          go_enter Try.func47, Try.ntmps47
          go_wp2_with (go_at_call 64; refine (rup_any _ _).mono ?_; rintro e w' ⟨rfl, rfl⟩)
          go_ret
          exact ⟨by rw [hbad.out]; rfl, rfl⟩
        · have h01 : Hid (allB okVar s 1 = true) := by
            show allB okVar s 1 = true
            rw [allB_succ, allB_zero, bt_of hp]; simp [okVar, hl]
          go_enter Try.func47, Try.ntmps47
          go_wp2_with (go_at_call 64; refine (rup_any _ _).mono ?_; rintro e w' ⟨rfl, rfl⟩)
          go_loop [4] (fun i => ∃ k : Nat, 1 ≤ k ∧ k ≤ s.size ∧ i = .int .i64 k ∧ allB okVar s k = true) (fun i => s.size - (intOf i).toNat)
          case atStart => exact ⟨1, Nat.le_refl _, hp, rfl, h01.out⟩
          case round =>
            obtain ⟨k, hk1, hk, rfl, hall⟩ := hrel
            have HA : Hid (allB okVar s k = true) := hall
            clear hall
            by_cases hlt : k < s.size
            · have hst : Hid (∀ b, okVar k ((s[k]'hlt).toNat : Int) = b → allB okVar s (k + 1) = b) := by
                intro b hb; rw [allB_succ, HA.out, bt_of hlt, hb]; rfl
              have hbad : Hid (okVar k ((s[k]'hlt).toNat : Int) = false → varB s = false) := by
                intro hb; rw [hv.out]; unfold writtenB; rw [allB_false hlt (by rw [bt_of hlt]; exact hb)]
              cases hlk : lowZ ((s[k]'hlt).toNat : Int)
              · cases huk : upZ ((s[k]'hlt).toNat : Int)
                · cases hdk : digZ ((s[k]'hlt).toNat : Int)
                  · go_wp2_with (first | (go_at_call 65; refine (rlow_any _ _).mono ?_; rintro e w' ⟨rfl, rfl⟩) | (go_at_call 63; refine (rdigit_any _ _).mono ?_; rintro e w' ⟨rfl, rfl⟩) | (go_at_call 64; refine (rup_any _ _).mono ?_; rintro e w' ⟨rfl, rfl⟩))
                    go_ret
                    exact ⟨by rw [hbad.out (by simp [okVar, hlk, hdk, huk])]; rfl, rfl⟩
                  · go_wp2_with (first | (go_at_call 65; refine (rlow_any _ _).mono ?_; rintro e w' ⟨rfl, rfl⟩) | (go_at_call 63; refine (rdigit_any _ _).mono ?_; rintro e w' ⟨rfl, rfl⟩) | (go_at_call 64; refine (rup_any _ _).mono ?_; rintro e w' ⟨rfl, rfl⟩))
                    go_round
                    case rel => exact ⟨k + 1, by omega, by omega, by go_num, hst.out _ (by simp [okVar, hdk]; omega)⟩
                    case measure => simp [intOf]; omega
                · go_wp2_with (first | (go_at_call 65; refine (rlow_any _ _).mono ?_; rintro e w' ⟨rfl, rfl⟩) | (go_at_call 63; refine (rdigit_any _ _).mono ?_; rintro e w' ⟨rfl, rfl⟩) | (go_at_call 64; refine (rup_any _ _).mono ?_; rintro e w' ⟨rfl, rfl⟩))
                  go_round
                  case rel => exact ⟨k + 1, by omega, by omega, by go_num, hst.out _ (by simp [okVar, huk])⟩
                  case measure => simp [intOf]; omega
              · go_wp2_with (first | (go_at_call 65; refine (rlow_any _ _).mono ?_; rintro e w' ⟨rfl, rfl⟩) | (go_at_call 63; refine (rdigit_any _ _).mono ?_; rintro e w' ⟨rfl, rfl⟩) | (go_at_call 64; refine (rup_any _ _).mono ?_; rintro e w' ⟨rfl, rfl⟩))
                go_round
                case rel => exact ⟨k + 1, by omega, by omega, by go_num, hst.out _ (by simp [okVar, hlk]; omega)⟩
                case measure => simp [intOf]; omega
            · have hgood : Hid (varB s = true) := by
                have hke : s.size = k := by omega
                show varB s = true; rw [hv.out]; unfold writtenB; rw [hke, HA.out]
              go_wp2
              go_ret
              exact ⟨by rw [hgood.out]; rfl, rfl⟩
      · have hu' : Hid (((s[0]'hp).toNat : Int) = 95) := by show _ = _; simpa using hu
        have hv : Hid (varB s = numberedB s) := var_num hfit.out hp hu'.out
        by_cases h2 : (s.size : Int) < 2
        · have hbad : Hid (varB s = false) := by show varB s = false; rw [hv.out]; simp [numberedB]; omega
          go_enter Try.func47, Try.ntmps47
          go_wp2
          go_ret
          exact ⟨by rw [hbad.out]; rfl, rfl⟩
        · have hp1 : 1 < s.size := by omega
          cases hz : (((s[1]'hp1).toNat : Int) == 48)
          · have hz' : Hid (((s[1]'hp1).toNat : Int) ≠ 48) := by show _ ≠ _; simpa using hz
            have h01 : Hid (allB okNum s 1 = true) := by
              show allB okNum s 1 = true
              rw [allB_succ, allB_zero, bt_of hp, hu'.out]; rfl
            go_enter Try.func47, Try.ntmps47
            go_wp2
            go_loop [3] (fun i => ∃ k : Nat, 1 ≤ k ∧ k ≤ s.size ∧ i = .int .i64 k ∧ allB okNum s k = true) (fun i => s.size - (intOf i).toNat)
            case atStart => exact ⟨1, Nat.le_refl _, hp, rfl, h01.out⟩
            case round =>
              obtain ⟨k, hk1, hk, rfl, hall⟩ := hrel
              have HA : Hid (allB okNum s k = true) := hall
              clear hall
              by_cases hlt : k < s.size
              · have hst : Hid (okNum k ((s[k]'hlt).toNat : Int) = true → allB okNum s (k + 1) = true) := by
                  intro hb; rw [allB_succ, HA.out, bt_of hlt, hb]; rfl
                have hbad : Hid (okNum k ((s[k]'hlt).toNat : Int) = false → varB s = false) := by
                  intro hb; rw [hv.out]; exact numbered_no k hlt hb
                cases hdk : digZ ((s[k]'hlt).toNat : Int)
                · go_wp2_with (go_at_call 63; refine (rdigit_any _ _).mono ?_; rintro e w' ⟨rfl, rfl⟩)
                  go_ret
                  exact ⟨by rw [hbad.out (by simp [okNum, hdk]; omega)]; rfl, rfl⟩
                · have hok : Hid (okNum k ((s[k]'hlt).toNat : Int) = true) := by
                    show okNum _ _ = true
                    by_cases hz1 : k = 1
                    · subst hz1; have := hz'.out; simp [okNum, hdk]; omega
                    · rw [okNum_two (by omega)]; exact hdk
                  go_wp2_with (go_at_call 63; refine (rdigit_any _ _).mono ?_; rintro e w' ⟨rfl, rfl⟩)
                  go_round
                  case rel => exact ⟨k + 1, by omega, by omega, by go_num, hst.out hok.out⟩
                  case measure => simp [intOf]; omega
              · have hgood : Hid (varB s = true) := by
                  have hke : s.size = k := by omega
                  show varB s = true; rw [hv.out]; unfold numberedB; rw [hke, HA.out]; simp; omega
                go_wp2
                go_ret
                exact ⟨by rw [hgood.out]; rfl, rfl⟩
          · have hbad : Hid (varB s = false) := by
              show varB s = false; rw [hv.out]
              have : ((s[1]'hp1).toNat : Int) = 48 := by simpa using hz
              exact numbered_no 1 hp1 (by rw [this]; rfl)
            go_enter Try.func47, Try.ntmps47
            go_wp2
            go_ret
            exact ⟨by rw [hbad.out]; rfl, rfl⟩
end Go.Proofs.Ytlemkgdbefmeeab
/- Signatures as plain lists: what is found, what is right; and where they lie in memory. -/
namespace Go.Proofs.Ytlemkgdbefmeeab
open Go.RowKit

structure Sym where
  name : ByteArray
  kind : Int
  arity : Int
  unit : ByteArray

def Sym.val (x : Sym) : Value := .agg #[.string x.name, .int .i64 x.kind, .int .i64 x.arity, .string x.unit]

/-! ### plain -/
def sameB (a b : ByteArray) : Bool := a.toList == b.toList
def findL (l : List Sym) (nm : ByteArray) : Option Nat := l.findIdx? fun x => sameB x.name nm
def findI (l : List Sym) (nm : ByteArray) : Int := match findL l nm with | some i => i | none => 0
def findB (l : List Sym) (nm : ByteArray) : Bool := (findL l nm).isSome

theorem find_hit {l : List Sym} {nm : ByteArray} {k : Nat} (hk : k < l.length) (h : sameB l[k].name nm = true) (hno : ∀ j (hj : j < l.length), j < k → sameB l[j].name nm = false) : findL l nm = some k := by
  unfold findL
  rw [List.findIdx?_eq_some_iff_getElem]
  exact ⟨hk, h, fun j hj => by rw [hno j (by omega) hj]; simp⟩
theorem find_miss {l : List Sym} {nm : ByteArray} (hno : ∀ j (hj : j < l.length), sameB l[j].name nm = false) : findL l nm = none := by
  unfold findL
  rw [List.findIdx?_eq_none_iff]
  intro x hx
  obtain ⟨j, hj, rfl⟩ := List.getElem_of_mem hx
  exact hno j hj
theorem findI_some {l : List Sym} {nm : ByteArray} {k : Nat} (h : findL l nm = some k) : findI l nm = k := by simp [findI, h]
theorem findB_some {l : List Sym} {nm : ByteArray} {k : Nat} (h : findL l nm = some k) : findB l nm = true := by simp [findB, h]
theorem findI_none {l : List Sym} {nm : ByteArray} (h : findL l nm = none) : findI l nm = 0 := by simp [findI, h]
theorem findB_none {l : List Sym} {nm : ByteArray} (h : findL l nm = none) : findB l nm = false := by simp [findB, h]

def arityB (x : Sym) : Bool := if x.kind = 1 then decide (0 ≤ x.arity) && decide (x.arity ≤ 4) else decide (x.arity = 2)
def emptyB (s : ByteArray) : Bool := s.toList.isEmpty
def isUnit (x y : Sym) : Bool := decide (y.kind = 1) && decide (y.arity = 0) && sameB y.name x.unit
def unitB (l : List Sym) (x : Sym) : Bool := if x.kind = 3 then l.any (isUnit x) else emptyB x.unit
def kindB (x : Sym) : Bool := decide (x.kind = 1) || decide (x.kind = 2) || decide (x.kind = 3)
/-- What is wrong with a symbol behind others. -/
def symErr (l : List Sym) (x : Sym) : Int :=
  if findB l x.name = true ∨ nameB x.name = false then 11 else if kindB x = false then 12 else if arityB x = false then 13 else if unitB l x = false then 14 else 0

/-! ### memory -/
structure SymAt (w : World) (b o : Nat) (x : Sym) : Prop where
  name : w.cell? ⟨b, o, none⟩ = some (.string x.name)
  kind : w.cell? ⟨b, o + 1, none⟩ = some (.int .i64 x.kind)
  arity : w.cell? ⟨b, o + 2, none⟩ = some (.int .i64 x.arity)
  unit : w.cell? ⟨b, o + 3, none⟩ = some (.string x.unit)

theorem SymAt.below {w w' : World} {b o : Nat} {x : Sym} (h : SymAt w b o x) (hb : Below w.heap.size w w') : SymAt w' b o x := by
  have hlt : b < w.heap.size := World.block_lt_of_cell? w _ h.name
  exact ⟨by rw [hb.cell (p := ⟨b, o, none⟩) hlt]; exact h.name, by rw [hb.cell (p := ⟨b, o + 1, none⟩) hlt]; exact h.kind,
    by rw [hb.cell (p := ⟨b, o + 2, none⟩) hlt]; exact h.arity, by rw [hb.cell (p := ⟨b, o + 3, none⟩) hlt]; exact h.unit⟩

/-- Each text is short enough to be one. -/
structure Sym.Fits (x : Sym) : Prop where
  name : x.name.size ≤ maxLen
  unit : x.unit.size ≤ maxLen

/-- The slice with this address and length holds these symbols. -/
structure SigAt (w : World) (a : Option Addr) (n : Nat) (l : List Sym) : Prop where
  len : n = l.length
  small : n ≤ maxLen
  cells : ∀ i (h : i < l.length), ∃ b off, a = some ⟨b, off, none⟩ ∧ SymAt w b (off + i * 4) l[i]
  fits : ∀ x ∈ l, x.Fits

theorem SigAt.below {w w' : World} {a : Option Addr} {n : Nat} {l : List Sym} (h : SigAt w a n l) (hb : Below w.heap.size w w') : SigAt w' a n l :=
  ⟨h.len, h.small, fun i hi => by obtain ⟨b, off, ha, hc⟩ := h.cells i hi; exact ⟨b, off, ha, hc.below hb⟩, h.fits⟩

end Go.Proofs.Ytlemkgdbefmeeab
/- Signatures in memory; what is wrong with a node, plain and as the program and the document say it. -/
namespace Go.Proofs.Ytlemkgdbefmeeab
open Go.RowKit Go.Deep

def takesB (s : Sym) (n : Nat) : Bool := if s.kind = 1 then (n : Int) == s.arity else decide (2 ≤ n)
def varErr (x : ByteArray × Int) (n : Nat) : Int := if varB x.1 = true ∧ x.2 = 0 ∧ n = 0 then 0 else 31
/-- What is wrong with a node. -/
def nodeErr (S : List Sym) (x : ByteArray × Int) (n : Nat) : Int :=
  if noName x.1 = false then varErr x n else if 0 ≤ x.2 then (match S[x.2.toNat]? with | some s => if takesB s n = true then 0 else 33 | none => 32) else 32

theorem nodeErr_in {S : List Sym} {x : ByteArray × Int} {n : Nat} (h : noName x.1 = true) (h0 : 0 ≤ x.2) (h1 : x.2.toNat < S.length) : nodeErr S x n = if takesB S[x.2.toNat] n = true then 0 else 33 := by
  unfold nodeErr
  rw [if_neg (by simp [h]), if_pos h0, List.getElem?_eq_getElem h1]
theorem nodeErr_out {S : List Sym} {x : ByteArray × Int} {n : Nat} (h : noName x.1 = true) (h1 : x.2 < 0 ∨ (S.length : Int) ≤ x.2) : nodeErr S x n = 32 := by
  unfold nodeErr
  rw [if_neg (by simp [h])]
  by_cases h0 : 0 ≤ x.2
  · rw [if_pos h0, List.getElem?_eq_none (by omega)]
  · rw [if_neg h0]

end Go.Proofs.Ytlemkgdbefmeeab
/- What the document's Check answers of any term by any signature. -/
namespace Go.Proofs.Ytlemkgdbefmeeab
open Go.RowKit Go.Deep

/-- What is wrong in a list of terms: of the first node at which something is. -/
def errF (S : List Sym) : Fo → Int
  | .nil => 0
  | .node _ _ x l r => thenC (thenC (nodeErr S x (lenF l)) (errF S l)) (errF S r)
def errT (S : List Sym) (x : ByteArray × Int) (l : Fo) : Int := thenC (nodeErr S x (lenF l)) (errF S l)
/-- What is left of most nodes; below zero, if there are more. -/
def ovF : Fo → Int → Int
  | .nil, m => m
  | .node _ _ _ l r, m => if m < 0 then m else ovF r (ovF l (m - 1))
theorem ov_neg : ∀ (F : Fo) (m : Int), m < 0 → ovF F m = m
  | .nil, _, _ => rfl
  | .node _ _ _ _ _, m, h => by rw [ovF, if_pos h]
theorem ov_is : ∀ (F : Fo) (m : Int), 0 ≤ m → ovF F m = if (nodesF F : Int) ≤ m then m - nodesF F else -1
  | .nil, m, h => by simp [ovF, nodesF, h]
  | .node _ _ x l r, m, h => by
    show _ = if ((nodesF l + nodesF r + 1 : Nat) : Int) ≤ m then m - ((nodesF l + nodesF r + 1 : Nat) : Int) else -1
    rw [ovF, if_neg (by omega)]
    by_cases h1 : m = 0
    · subst h1
      rw [ov_neg l _ (by omega), ov_neg r _ (by omega), if_neg (by omega)]; rfl
    · rw [ov_is l (m - 1) (by omega)]
      by_cases h2 : (nodesF l : Int) ≤ m - 1
      · rw [if_pos h2, ov_is r _ (by omega)]
        by_cases h3 : (nodesF r : Int) ≤ m - 1 - nodesF l
        · rw [if_pos h3, if_pos (by omega)]; omega
        · rw [if_neg h3, if_neg (by omega)]
      · rw [if_neg h2, ov_neg r _ (by omega), if_neg (by omega)]

set_option maxHeartbeats 1000000 in
theorem node_any (S : List Sym) (sa : Option Addr) (sn sc : Nat) (x : ByteArray × Int) (a : Option Addr) (n c : Nat) (w : World) (hS : SigAt w sa sn S) (hs : x.1.size ≤ maxLen) :
    Calls Try.prog 36 #[.slice sa sn sc, .agg #[.string x.1, .int .i64 x.2, .slice a n c]] w fun e w' => e = .returned (.int .i64 (nodeErr S x n)) ∧ Below w.heap.size w w' := by
  have hb1 : Hid (Below w.heap.size w (w.alloc (.cells #[.string x.1, .int .i64 x.2, .slice a n c] 26))) := (Below.refl _ w).alloc (Nat.le_refl _) _
  have hlen := hS.len
  have hsm := hS.small
  have HS : Hid (SigAt w sa sn S) := hS
  unfold maxLen at hsm
  clear hS
  cases hx : x.1.toList.isEmpty
  · have hE : Hid (nodeErr S x n = varErr x n) := by show _ = _; unfold nodeErr noName; rw [hx]; rfl
    have hE2 : varErr x n = if varB x.1 = true ∧ x.2 = 0 ∧ n = 0 then 0 else 31 := rfl
    have bx := TBox.new w x a n c
    have hv := rvar_any x.1 (w.alloc (.cells #[.string x.1, .int .i64 x.2, .slice a n c] 26)) hs
    go_enter Try.func36, Try.ntmps36
    go_wp2_with fail
    refine hv.mono ?_
    rintro e w2 ⟨rfl, hw2⟩
    have HB : Hid (Below w.heap.size w w2) := by first | (rw [hw2]; exact hb1.out) | exact hb1.out.trans (hw2.mono hb1.out.size)
    have bx2 : TBox w2 w.heap.size x a n c := by first | (rw [hw2]; exact bx) | exact bx.below hw2
    have c1 := bx2.c1
    have c2 := bx2.c2
    clear hv bx bx2 hw2
    cases h1 : varB x.1
    · rw [h1] at hE2
      go_wp2
      go_ret
      exact ⟨by rw [hE.out, hE2]; simp, HB.out⟩
    · rw [h1] at hE2
      cases h2 : (x.2 != 0)
      · have h2' : x.2 = 0 := by simpa using h2
        by_cases h3 : 0 < n
        · go_wp2
          go_ret
          exact ⟨by rw [hE.out, hE2, if_neg (by omega)]; rfl, HB.out⟩
        · go_wp2
          go_ret
          exact ⟨by rw [hE.out, hE2, if_pos (by simp; omega)]; rfl, HB.out⟩
      · have h2' : x.2 ≠ 0 := by simpa using h2
        go_wp2
        go_ret
        exact ⟨by rw [hE.out, hE2, if_neg (by simp; omega)]; rfl, HB.out⟩
  · by_cases h0 : x.2 < 0
    · have hE : Hid (nodeErr S x n = 32) := nodeErr_out hx (.inl h0)
      go_enter Try.func36, Try.ntmps36
      go_wp2
      go_ret
      exact ⟨by rw [hE.out]; rfl, hb1.out⟩
    · by_cases h1 : (sn : Int) ≤ x.2
      · have hE : Hid (nodeErr S x n = 32) := nodeErr_out hx (.inr (by omega))
        go_enter Try.func36, Try.ntmps36
        go_wp2
        go_ret
        exact ⟨by rw [hE.out]; rfl, hb1.out⟩
      · have hlt : x.2.toNat < S.length := by omega
        have hE : Hid (nodeErr S x n = if takesB S[x.2.toNat] n = true then 0 else 33) := nodeErr_in hx (by omega) hlt
        obtain ⟨b, off, rfl, sy⟩ := HS.out.cells _ hlt
        have sy' := sy.below hb1.out
        have hk0 : (0 : Int) ≤ x.2 := by omega
        have hkn : x.2 < (sn : Int) := by omega
        have s0 := sy'.name; have s1 := sy'.kind; have s2 := sy'.arity; have s3 := sy'.unit
        clear sy sy' HS hlen
        obtain ⟨s, hsd⟩ : ∃ s, S[x.2.toNat] = s := ⟨_, rfl⟩
        rw [hsd] at s0 s1 s2 s3 hE
        clear hsd
        have hT : takesB s n = if s.kind = 1 then (n : Int) == s.arity else decide (2 ≤ n) := rfl
        have hb2 : Hid (Below w.heap.size w ((w.alloc (.cells #[.string x.1, .int .i64 x.2, .slice a n c] 26)).alloc (.cells #[.string s.name, .int .i64 s.kind, .int .i64 s.arity, .string s.unit] 36))) := hb1.out.alloc hb1.out.size _
        cases hk : (s.kind == 1)
        · have hk2 : (s.kind != 1) = true := by simpa using hk
          rw [if_neg (by simpa using hk)] at hT
          by_cases h2 : n < 2
          · rw [show decide (2 ≤ n) = false by simp; omega] at hT
            rw [hT] at hE
            go_enter Try.func36, Try.ntmps36
            go_wp2
            go_ret
            exact ⟨by rw [hE.out]; rfl, hb2.out⟩
          · rw [show decide (2 ≤ n) = true by simp; omega] at hT
            rw [hT] at hE
            go_enter Try.func36, Try.ntmps36
            go_wp2
            go_ret
            exact ⟨by rw [hE.out]; rfl, hb2.out⟩
        · have hk2 : (s.kind != 1) = false := by simpa using hk
          rw [if_pos (by simpa using hk)] at hT
          cases ha : ((n : Int) == s.arity)
          · rw [ha] at hT
            rw [hT] at hE
            have ha' : ((n : Int) != s.arity) = true := by simpa using ha
            go_enter Try.func36, Try.ntmps36
            go_wp2
            go_ret
            exact ⟨by rw [hE.out]; rfl, hb2.out⟩
          · rw [ha] at hT
            rw [hT] at hE
            have ha' : ((n : Int) != s.arity) = false := by simpa using ha
            go_enter Try.func36, Try.ntmps36
            go_wp2
            go_ret
            exact ⟨by rw [hE.out]; rfl, hb2.out⟩
end Go.Proofs.Ytlemkgdbefmeeab
/- How many nodes, and what is wrong node by node: the document's Check, whole. -/
namespace Go.Proofs.Ytlemkgdbefmeeab
open Go.RowKit Go.Deep

/-- The box of a function of one term. -/
structure One (w : World) (x : ByteArray × Int) (a : Option Addr) (n c : Nat) (W : World) : Prop where
  low : Below w.heap.size w W
  t : TBox W w.heap.size x a n c
theorem One.new (w : World) (x : ByteArray × Int) (a : Option Addr) (n c : Nat) : One w x a n c (w.alloc (.cells #[.string x.1, .int .i64 x.2, .slice a n c] 26)) := ⟨(Below.refl _ w).alloc (Nat.le_refl _) _, TBox.new _ _ _ _ _⟩
theorem One.below {w : World} {x : ByteArray × Int} {a : Option Addr} {n c : Nat} {W W' : World} (h : One w x a n c W) (hb : Below W.heap.size W W') : One w x a n c W' := ⟨h.low.trans (hb.mono h.low.size), h.t.below hb⟩

def NdOk (S : List Sym) (k : Nat) : Prop := ∀ (sa : Option Addr) (sn sc : Nat) (x : ByteArray × Int) (l : Fo) (a : Option Addr) (c : Nat) (w : World), nodesF l ≤ k → SigAt w sa sn S → TmAt w x a c l →
  Calls Try.prog 28 #[.slice sa sn sc, .agg #[.string x.1, .int .i64 x.2, .slice a (lenF l) c]] w fun e w' => e = .returned (.int .i64 (errT S x l)) ∧ Below w.heap.size w w'

set_option maxRecDepth 100000 in
set_option maxHeartbeats 1000000 in
theorem nodes_all (S : List Sym) : ∀ k, NdOk S k := by
  intro k
  induction k using Nat.strongRecOn with
  | _ k ih =>
    intro sa sn sc x l a c w hk hS hT
    have HS : Hid (SigAt w sa sn S) := hS
    have HT : Hid (TmAt w x a c l) := hT
    have IH : Hid (∀ j, j < k → NdOk S j) := ih
    have O0 : Hid (One w x a (lenF l) c (w.alloc (.cells #[.string x.1, .int .i64 x.2, .slice a (lenF l) c] 26))) := One.new _ _ _ _ _
    have hn : lenF l ≤ 9223372036854775807 := by have := hT.sizes.len; have := hT.sizes.cap; unfold maxLen at *; omega
    have hC := node_any S sa sn sc x a (lenF l) c _ (hS.below O0.out.low) hT.sizes.name
    clear hT ih hS
    go_enter Try.func28, Try.ntmps28
    go_wp2_with fail
    refine hC.mono ?_
    rintro e w2 ⟨rfl, hb⟩
    have O2 : Hid (One w x a (lenF l) c w2) := O0.out.below hb
    clear hC hb O0
    go_wp2
    go_loopw [5, 6] (fun er i wr => ∃ (j : Nat) (q : Int), j ≤ lenF l ∧ er = .int .i64 q ∧ i = .int .i64 j ∧ One w x a (lenF l) c wr ∧ errT S x l = thenC q (errF S (dropF j l))) (fun _ i _ => lenF l - (intOf i).toNat)
    case atStart => exact ⟨0, _, Nat.zero_le _, rfl, rfl, O2.out, by rw [drop_zero]; rfl⟩
    case round =>
      obtain ⟨j, q, hj, rfl, rfl, hO, her⟩ := hrel
      have t2 := hO.t.c2
      by_cases hlt : j < lenF l
      · cases hq : (q == 0)
        · have her' : Hid (errT S x l = q) := by show _ = _; rw [her]; unfold thenC; rw [if_neg (by simpa using hq)]
          clear her
          go_wp2
          go_ret
          exact ⟨by rw [her'.out]; rfl, hO.low⟩
        · obtain ⟨b1, o1, rfl, hk1⟩ := HT.out.args.get (by omega)
          obtain ⟨z, a1, c1, l1, kd⟩ := hk1.kid (k := j) hlt
          have kd' := kd.below hO.low
          obtain ⟨B1, O1, s1⟩ := kd.split
          have hq0 : q = 0 := by simpa using hq
          rw [s1, errF] at her
          have HER : Hid (errT S x l = thenC (errT S z l1) (errF S (dropF (j + 1) l))) := by show _ = _; rw [her, hq0]; rfl
          have p0 := kd'.name; have p1 := kd'.sym; have p2 := kd'.list
          have hC := IH.out (nodesF l1) (by have := kd.less; omega) sa sn sc z l1 a1 c1 wr (Nat.le_refl _) (HS.out.below hO.low) kd'.at_
          have HO : Hid (One w x (some ⟨b1, o1, none⟩) (lenF l) c wr) := hO
          clear kd kd' hk1 her s1 hO
          go_wp2_with fail
          refine hC.mono ?_
          rintro e w3 ⟨rfl, hb⟩
          have HO2 : Hid (One w x (some ⟨b1, o1, none⟩) (lenF l) c w3) := HO.out.below hb
          clear hC hb p0 p1 p2 t2
          go_wp2
          go_roundw
          case rel => exact ⟨j + 1, _, by omega, rfl, by go_num, HO2.out, HER.out⟩
          case measure => simp [intOf]; omega
      · have e1 : j = lenF l := by omega
        have her' : Hid (errT S x l = q) := by
          show _ = _
          rw [her, e1, drop_end, errF]; unfold thenC
          split
          · rename_i h; exact h.symm
          · rfl
        clear her
        go_wp2
        go_ret
        exact ⟨by rw [her'.out]; rfl, hO.low⟩

end Go.Proofs.Ytlemkgdbefmeeab
/- What Find answers: the program's and the document's. -/
namespace Go.Proofs.Ytlemkgdbefmeeab
open Go.RowKit

def FindRet (l : List Sym) (nm : ByteArray) (e : Ending) : Prop := e = .returned (.tuple #[.int .i64 (findI l nm), .bool (findB l nm)])

end Go.Proofs.Ytlemkgdbefmeeab
/- What Unit answers: the program's and the document's. -/
namespace Go.Proofs.Ytlemkgdbefmeeab
open Go.RowKit

def unitAt (l : List Sym) (z : Int) : Option Nat := if h : 0 ≤ z ∧ z.toNat < l.length then (if (l[z.toNat]'h.2).kind = 3 then findL l (l[z.toNat]'h.2).unit else none) else none
def unitI (l : List Sym) (z : Int) : Int := match unitAt l z with | some i => i | none => 0
def unitOk (l : List Sym) (z : Int) : Bool := (unitAt l z).isSome
def UnitRet (l : List Sym) (z : Int) (e : Ending) : Prop := e = .returned (.tuple #[.int .i64 (unitI l z), .bool (unitOk l z)])

theorem unit_out {l : List Sym} {z : Int} (h : ¬ (0 ≤ z ∧ z.toNat < l.length)) : unitAt l z = none := by simp [unitAt, h]
theorem unit_not {l : List Sym} {k : Nat} (hk : k < l.length) (h : l[k].kind ≠ 3) : unitAt l k = none := by
  unfold unitAt
  rw [dif_pos ⟨by omega, by simpa using hk⟩, if_neg (by simpa using h)]
theorem unit_is {l : List Sym} {k : Nat} (hk : k < l.length) (h : l[k].kind = 3) : unitAt l k = findL l l[k].unit := by
  unfold unitAt
  rw [dif_pos ⟨by omega, by simpa using hk⟩, if_pos (by simpa using h)]
  simp
theorem unitI_none {l : List Sym} {z : Int} (h : unitAt l z = none) : unitI l z = 0 := by simp [unitI, h]
theorem unitOk_none {l : List Sym} {z : Int} (h : unitAt l z = none) : unitOk l z = false := by simp [unitOk, h]
theorem unitI_is {l : List Sym} {z : Int} {nm : ByteArray} (h : unitAt l z = findL l nm) : unitI l z = findI l nm := by unfold unitI findI; rw [h] <;> rfl
theorem unitOk_is {l : List Sym} {z : Int} {nm : ByteArray} (h : unitAt l z = findL l nm) : unitOk l z = findB l nm := by simp [unitOk, findB, h]

end Go.Proofs.Ytlemkgdbefmeeab
/- What rightArity, rightUnit and checkSymbol answer. -/
namespace Go.Proofs.Ytlemkgdbefmeeab
open Go.RowKit

def unitB2 (l : List Sym) (x : Sym) : Bool := if x.kind = 3 then l.any (fun y => isUnit x y && emptyB y.unit) else emptyB x.unit
theorem unitB2_not {l : List Sym} {x : Sym} (hk : x.kind ≠ 3) : unitB2 l x = emptyB x.unit := by simp [unitB2, hk]
theorem unitB2_hit {l : List Sym} {x : Sym} (hk : x.kind = 3) {k : Nat} (hlk : k < l.length) (h : (isUnit x l[k] && emptyB l[k].unit) = true) : unitB2 l x = true := by
  unfold unitB2
  rw [if_pos hk, List.any_eq_true]
  exact ⟨l[k], List.getElem_mem hlk, h⟩
theorem unitB2_miss {l : List Sym} {x : Sym} (hk : x.kind = 3) (h : ∀ j (hj : j < l.length), (isUnit x l[j] && emptyB l[j].unit) = false) : unitB2 l x = false := by
  unfold unitB2
  rw [if_pos hk, List.any_eq_false]
  intro y hy
  obtain ⟨j, hj, rfl⟩ := List.getElem_of_mem hy
  rw [h j hj]; simp

end Go.Proofs.Ytlemkgdbefmeeab
/- What Check answers, plainly: the first symbol that may not be. -/
namespace Go.Proofs.Ytlemkgdbefmeeab
open Go.RowKit

def errAt (l : List Sym) (i : Nat) : Int := if h : i < l.length then symErr (l.take i) l[i] else 0
def firstErr (l : List Sym) : Option Nat := (List.range l.length).find? fun i => errAt l i != 0
def checkE (l : List Sym) : Int := if 16 < l.length then 15 else match firstErr l with | some i => errAt l i | none => 0
def checkP (l : List Sym) : Int := if 16 < l.length then 0 else match firstErr l with | some i => (i : Int) | none => 0

theorem firstErr_hit {l : List Sym} {k : Nat} (hk : k < l.length) (h : errAt l k ≠ 0) (hno : ∀ j, j < k → errAt l j = 0) : firstErr l = some k := by
  unfold firstErr
  rw [List.find?_range_eq_some]
  refine ⟨by simpa using h, by simpa using hk, fun j hj => by simp [hno j hj]⟩
theorem firstErr_miss {l : List Sym} (hno : ∀ j, j < l.length → errAt l j = 0) : firstErr l = none := by
  unfold firstErr
  rw [List.find?_eq_none]
  intro j hj
  simp only [List.mem_range] at hj
  simp [hno j hj]
theorem checkE_hit {l : List Sym} {k : Nat} (h16 : ¬ 16 < l.length) (h : firstErr l = some k) : checkE l = errAt l k := by simp [checkE, h16, h]
theorem checkP_hit {l : List Sym} {k : Nat} (h16 : ¬ 16 < l.length) (h : firstErr l = some k) : checkP l = k := by simp [checkP, h16, h]
theorem checkE_miss {l : List Sym} (h16 : ¬ 16 < l.length) (h : firstErr l = none) : checkE l = 0 := by simp [checkE, h16, h]
theorem checkP_miss {l : List Sym} (h16 : ¬ 16 < l.length) (h : firstErr l = none) : checkP l = 0 := by simp [checkP, h16, h]

theorem symErr_unit {l : List Sym} {x : Sym} (h : symErr l x = 0) : unitB l x = true := by
  unfold symErr at h
  split at h
  · omega
  · split at h
    · omega
    · split at h
      · omega
      · split at h
        · omega
        · rename_i hu; simpa using hu
theorem unitB2_eq {l : List Sym} {x : Sym} (h : ∀ y ∈ l, y.kind = 1 → emptyB y.unit = true) : unitB2 l x = unitB l x := by
  unfold unitB2 unitB
  split
  · rw [Bool.eq_iff_iff, List.any_eq_true, List.any_eq_true]
    constructor
    · rintro ⟨y, hy, h1⟩; exact ⟨y, hy, by simp at h1; exact h1.1⟩
    · rintro ⟨y, hy, h1⟩
      refine ⟨y, hy, ?_⟩
      rw [h1, h y hy (by simp [isUnit] at h1; exact h1.1.1)]; rfl
  · rfl
theorem free_empty {l : List Sym} {k : Nat} (hk : k ≤ l.length) (hno : ∀ j, j < k → errAt l j = 0) : ∀ y ∈ l.take k, y.kind = 1 → emptyB y.unit = true := by
  intro y hy h1
  obtain ⟨j, hj, rfl⟩ := List.getElem_of_mem hy
  have hjk : j < k := by simp at hj; omega
  have hjl : j < l.length := by omega
  have h0 := hno j hjk
  unfold errAt at h0
  rw [dif_pos hjl] at h0
  have hu := symErr_unit h0
  have e : (l.take k)[j] = l[j] := by simp
  rw [e] at h1 ⊢
  unfold unitB at hu
  rw [if_neg (by omega)] at hu
  exact hu
theorem SigAt.take {w : World} {a : Option Addr} {n : Nat} {l : List Sym} (h : SigAt w a n l) (k : Nat) (hk : k ≤ n) : SigAt w a k (l.take k) :=
  ⟨by have := h.len; simp; omega, by have := h.small; omega, fun i hi => by
    have hi' : i < l.length := by simp at hi; omega
    obtain ⟨b, off, ha, hc⟩ := h.cells i hi'
    exact ⟨b, off, ha, by simpa using hc⟩, fun x hx => h.fits x (List.mem_of_mem_take hx)⟩
end Go.Proofs.Ytlemkgdbefmeeab
/- A signature as Canon sees it: which places join, and which unit they have; what a right signature and a right term say of it. -/
namespace Go.Proofs.Ytlemkgdbefmeeab
open Go.RowKit Go.Deep

def symAt (l : List Sym) (f : Int) : Option Sym := if 0 ≤ f then l[f.toNat]? else none
def joinsAt (l : List Sym) (f : Int) : Bool := match symAt l f with | some x => decide (x.kind = 2) || decide (x.kind = 3) | none => false
def arAt (l : List Sym) (f : Int) : Nat := match symAt l f with | some x => x.arity.toNat | none => 0
def sgOf (l : List Sym) : Sg := ⟨joinsAt l, fun f => (unitAt l f).map fun (i : Nat) => (i : Int)⟩
theorem symAt_in {l : List Sym} {k : Nat} (h : k < l.length) : symAt l (k : Int) = some l[k] := by
  unfold symAt
  rw [if_pos (by omega), Int.toNat_natCast, List.getElem?_eq_getElem h]
theorem symAt_out {l : List Sym} {f : Int} (h : ¬ (0 ≤ f ∧ f.toNat < l.length)) : symAt l f = none := by
  unfold symAt
  split
  · rw [List.getElem?_eq_none_iff]; omega
  · rfl

/-! ### a right signature -/
theorem symErr_zero {l : List Sym} {x : Sym} (h : symErr l x = 0) : findB l x.name = false ∧ kindB x = true ∧ arityB x = true ∧ unitB l x = true := by
  unfold symErr at h
  split at h
  · omega
  · rename_i h1
    split at h
    · omega
    · rename_i h2
      split at h
      · omega
      · rename_i h3
        split at h
        · omega
        · rename_i h4
          exact ⟨by simpa using fun e => h1 (.inl e), by simpa using h2, by simpa using h3, by simpa using h4⟩
theorem right_each {l : List Sym} (h : checkE l = 0) {k : Nat} (hk : k < l.length) : symErr (l.take k) l[k] = 0 := by
  unfold checkE at h
  split at h
  · omega
  · cases hf : firstErr l with
    | none =>
      unfold firstErr at hf
      rw [List.find?_eq_none] at hf
      have := hf k (List.mem_range.2 hk)
      unfold errAt at this
      rw [dif_pos hk] at this
      simpa using this
    | some i =>
      rw [hf] at h
      dsimp only at h
      have := List.find?_some hf
      rw [h] at this
      simp at this
theorem sameB_iff (a b : ByteArray) : sameB a b = true ↔ a = b := by
  unfold sameB
  rw [beq_iff_eq, ByteArray.toList_eq, ByteArray.toList_eq]
  exact ⟨bytes_eq, fun h => by rw [h]⟩
theorem find_at {l : List Sym} {nm : ByteArray} {i : Nat} (h : findL l nm = some i) : ∃ hi : i < l.length, l[i].name = nm ∧ ∀ j (hj : j < i), (l[j]'(by omega)).name ≠ nm := by
  unfold findL at h
  rw [List.findIdx?_eq_some_iff_getElem] at h
  obtain ⟨hi, h1, h2⟩ := h
  refine ⟨hi, (sameB_iff _ _).1 h1, fun j hj e => ?_⟩
  have := h2 j hj
  rw [(sameB_iff _ _).2 e] at this
  simp at this
theorem unit_facts {l : List Sym} (h : checkE l = 0) {f : Int} {i : Nat} (hu : unitAt l f = some i) : ∃ hi : i < l.length, l[i].kind = 1 ∧ l[i].arity = 0 := by
  unfold unitAt at hu
  split at hu
  · rename_i hf
    split at hu
    · rename_i hk
      obtain ⟨hi, h1, h2⟩ := find_at hu
      have he := symErr_zero (right_each h hf.2)
      have hub := he.2.2.2
      unfold unitB at hub
      rw [if_pos hk, List.any_eq_true] at hub
      obtain ⟨y, hy, hyu⟩ := hub
      obtain ⟨k, hkl, rfl⟩ := List.getElem_of_mem hy
      have hk0 : k < f.toNat ∧ k < l.length := by rw [List.length_take] at hkl; omega
      rw [List.getElem_take] at hyu
      unfold isUnit at hyu
      simp only [Bool.and_eq_true, decide_eq_true_eq] at hyu
      obtain ⟨⟨q1, q2⟩, q3⟩ := hyu
      rw [sameB_iff] at q3
      have hik : i = k := by
        rcases Nat.lt_trichotomy i k with hlt | heq | hgt
        · have hfresh := (symErr_zero (right_each h hk0.2)).1
          unfold findB at hfresh
          have : findL (l.take k) l[k].name ≠ none := by
            unfold findL
            rw [Ne, List.findIdx?_eq_none_iff]
            intro hno
            have := hno (l[i]) (by rw [List.mem_take_iff_getElem]; exact ⟨i, by omega, rfl⟩)
            rw [(sameB_iff _ _).2 (h1.trans q3.symm)] at this
            simp at this
          rw [Option.isSome_eq_false_iff, Option.isNone_iff_eq_none] at hfresh
          exact absurd hfresh this
        · exact heq
        · exact absurd q3 (h2 k hgt)
      subst hik
      exact ⟨hi, q1, q2⟩
    · cases hu
  · cases hu
theorem sg_ok {l : List Sym} (h : checkE l = 0) : (sgOf l).Ok (arAt l) := by
  have hu : ∀ f u, (sgOf l).unit f = some u → joinsAt l u = false ∧ arAt l u = 0 := by
    intro f u hu
    simp only [sgOf, Option.map_eq_some_iff] at hu
    obtain ⟨i, hi, rfl⟩ := hu
    obtain ⟨hlt, hk, ha⟩ := unit_facts h hi
    unfold joinsAt arAt
    rw [symAt_in hlt]
    simp [hk, ha]
  exact ⟨fun f u e => (hu f u e).1, fun f u e => (hu f u e).2⟩

/-! ### a right term -/
theorem node_right {l : List Sym} (h : checkE l = 0) {x : ByteArray × Int} {n : Nat} (hn : nodeErr l x n = 0) : nodeOk (sgOf l) (arAt l) x n := by
  unfold nodeErr at hn
  unfold nodeOk
  split at hn
  · rename_i hx
    rw [if_pos hx]
    unfold varErr at hn
    split at hn
    · rename_i h1; exact ⟨h1.2.1, h1.2.2⟩
    · omega
  · rename_i hx
    rw [if_neg hx]
    split at hn
    · rename_i h0
      split at hn
      · rename_i s hs
        split at hn
        · rename_i ht
          have hs' : symAt l x.2 = some s := by unfold symAt; rw [if_pos h0]; exact hs
          have hlt : x.2.toNat < l.length := by
            rcases Nat.lt_or_ge x.2.toNat l.length with h | h
            · exact h
            · rw [List.getElem?_eq_none_iff.2 h] at hs; cases hs
          have hsk : l[x.2.toNat] = s := by rw [List.getElem?_eq_getElem hlt] at hs; exact Option.some.inj hs
          have hkb := (symErr_zero (right_each h hlt)).2.1
          have hab := (symErr_zero (right_each h hlt)).2.2.1
          rw [hsk] at hkb hab
          unfold takesB at ht
          show if joinsAt l x.2 = true then 2 ≤ n else n = arAt l x.2
          unfold joinsAt arAt
          rw [hs']
          dsimp only
          unfold kindB at hkb
          unfold arityB at hab
          by_cases h1 : s.kind = 1
          · rw [if_pos h1] at ht hab
            rw [if_neg (by simp [h1])]
            simp only [beq_iff_eq] at ht
            omega
          · rw [if_neg h1] at ht
            rw [if_pos (by simpa [h1] using hkb)]
            simpa using ht
        · omega
      · omega
    · omega
theorem then_zero {a b : Int} (h : thenC a b = 0) : a = 0 ∧ b = 0 := by
  unfold thenC at h
  split at h
  · exact ⟨by assumption, h⟩
  · omega
theorem errF_right {l : List Sym} (h : checkE l = 0) : ∀ {F : Fo}, errF l F = 0 → RightF (sgOf l) (arAt l) F
  | .nil, _ => trivial
  | .node _ _ x m r, he => by
    rw [errF] at he
    obtain ⟨h1, h2⟩ := then_zero he
    obtain ⟨h3, h4⟩ := then_zero h1
    exact ⟨⟨node_right h h3, errF_right h h4⟩, errF_right h h2⟩
theorem errT_right {l : List Sym} (h : checkE l = 0) {x : ByteArray × Int} {m : Fo} (he : errT l x m = 0) : RightT (sgOf l) (arAt l) (x, m) := by
  unfold errT at he
  obtain ⟨h3, h4⟩ := then_zero he
  exact ⟨node_right h h3, errF_right h h4⟩
end Go.Proofs.Ytlemkgdbefmeeab
/- What the document's joins and constant answer. -/
namespace Go.Proofs.Ytlemkgdbefmeeab
open Go.RowKit Go.Deep

end Go.Proofs.Ytlemkgdbefmeeab
/- What the document's Compare answers of any two terms; Same. -/
namespace Go.Proofs.Ytlemkgdbefmeeab
open Go.RowKit Go.Deep

theorem lt_bytes : ∀ a b : List UInt8, a < b ↔ Lib.compareBytes a b = -1
  | [], [] => by simp [Lib.compareBytes]
  | [], _ :: _ => by simp [Lib.compareBytes]
  | _ :: _, [] => by simp [Lib.compareBytes]
  | a :: u, b :: v => by
    have ih := lt_bytes u v
    rw [List.cons_lt_cons_iff, Lib.compareBytes, ih]
    by_cases h1 : a < b
    · simp [h1]
    · by_cases h2 : b < a
      · have : a ≠ b := fun e => by subst e; exact absurd h2 h1
        simp [h1, h2, this]
      · have h1' : ¬ a.toNat < b.toNat := fun h => h1 (UInt8.lt_iff_toNat_lt.2 h)
        have h2' : ¬ b.toNat < a.toNat := fun h => h2 (UInt8.lt_iff_toNat_lt.2 h)
        have : a = b := UInt8.toNat_inj.1 (by omega)
        simp [this]
theorem bytes_less (x y : ByteArray) : Op.bytesLess x.toList y.toList = decide (cmpS x y = -1) := by
  rw [bytesLess_eq, ByteArray.toList_eq, ByteArray.toList_eq]
  exact decide_eq_decide.2 (lt_bytes _ _)
theorem cmpS_three (x y : ByteArray) : cmpS x y = if Op.bytesLess x.toList y.toList = true then -1 else if (x.toList == y.toList) = true then 0 else 1 := by
  rw [bytes_less, ByteArray.toList_eq, ByteArray.toList_eq]
  unfold cmpS
  have hr : Lib.compareBytes x.data.toList y.data.toList = -1 ∨ Lib.compareBytes x.data.toList y.data.toList = 0 ∨ Lib.compareBytes x.data.toList y.data.toList = 1 := by
    have : ∀ a b : List UInt8, -1 ≤ Lib.compareBytes a b ∧ Lib.compareBytes a b ≤ 1 := by
      intro a
      induction a with
      | nil => intro b; cases b <;> simp [Lib.compareBytes]
      | cons p u ih =>
        intro b
        cases b with
        | nil => simp [Lib.compareBytes]
        | cons q v =>
          have := ih v
          rw [Lib.compareBytes]
          split
          · omega
          · split <;> omega
    have := this x.data.toList y.data.toList
    omega
  by_cases e : x.data.toList = y.data.toList
  · rw [e, bytes_refl]; simp
  · have h0 : Lib.compareBytes x.data.toList y.data.toList ≠ 0 := fun h => e (bytes_zero h)
    rcases hr with h | h | h
    · simp [h]
    · exact absurd h h0
    · simp only [h]
      have : (x.data.toList == y.data.toList) = false := by simpa using e
      rw [this]; rfl
def RCmpOk (k : Nat) : Prop := ∀ (x y : ByteArray × Int) (a a' : Option Addr) (c c' : Nat) (l m : Fo) (w : World), nodesF l ≤ k → TmAt w x a c l → TmAt w y a' c' m →
  Calls Try.prog 11 #[.agg #[.string x.1, .int .i64 x.2, .slice a (lenF l) c], .agg #[.string y.1, .int .i64 y.2, .slice a' (lenF m) c']] w
    fun e w' => e = .returned (.int .i64 (cmp1 x y (lenF l) (lenF m) (cmpF l m))) ∧ Below w.heap.size w w'

set_option maxRecDepth 100000 in
set_option maxHeartbeats 2000000 in
theorem rcompare_all : ∀ k, RCmpOk k := by
  intro k
  induction k using Nat.strongRecOn with
  | _ k ih =>
    intro x y a a' c c' l m w hk hA hB
    have HA : Hid (TmAt w x a c l) := hA
    have HB : Hid (TmAt w y a' c' m) := hB
    have IH : Hid (∀ j, j < k → RCmpOk j) := ih
    have hmax : maxLen = 9223372036854775807 := rfl
    have hs1 := hA.sizes.len
    have hs2 := hA.sizes.cap
    have PA : Hid (Pair w x a (lenF l) c y a' (lenF m) c' ((w.alloc (.cells #[.string x.1, .int .i64 x.2, .slice a (lenF l) c] 26)).alloc (.cells #[.string y.1, .int .i64 y.2, .slice a' (lenF m) c'] 26))) := Pair.new _ _ _ _ _ _ _ _ _
    clear hA hB ih
    cases hx : x.1.toList.isEmpty <;> cases hy : y.1.toList.isEmpty
    · have hr : Hid (cmp1 x y (lenF l) (lenF m) (cmpF l m) = cmpS x.1 y.1) := by show _ = _; unfold cmp1 noName; rw [hx, hy]; rfl
      have hS := cmpS_three x.1 y.1
      cases h1 : Op.bytesLess x.1.toList y.1.toList
      · cases h2 : (x.1.toList == y.1.toList)
        · rw [h1, h2] at hS
          go_enter Try.func11, Try.ntmps11
          go_wp2
          go_ret
          exact ⟨by rw [hr.out, hS]; rfl, PA.out.low⟩
        · rw [h1, h2] at hS
          go_enter Try.func11, Try.ntmps11
          go_wp2
          go_ret
          exact ⟨by rw [hr.out, hS]; rfl, PA.out.low⟩
      · rw [h1] at hS
        go_enter Try.func11, Try.ntmps11
        go_wp2
        go_ret
        exact ⟨by rw [hr.out, hS]; rfl, PA.out.low⟩
    · have hr : Hid (cmp1 x y (lenF l) (lenF m) (cmpF l m) = -1) := by show _ = _; unfold cmp1 noName cmpS; rw [hx, hy]; rfl
      go_enter Try.func11, Try.ntmps11
      go_wp2
      go_ret
      exact ⟨by rw [hr.out]; rfl, PA.out.low⟩
    · have hr : Hid (cmp1 x y (lenF l) (lenF m) (cmpF l m) = 1) := by show _ = _; unfold cmp1 noName cmpS; rw [hx, hy]; rfl
      go_enter Try.func11, Try.ntmps11
      go_wp2
      go_ret
      exact ⟨by rw [hr.out]; rfl, PA.out.low⟩
    · cases hs : (x.2 != y.2)
      · cases hn : ((lenF l : Int) != (lenF m : Int))
        · have hr : Hid (cmp1 x y (lenF l) (lenF m) (cmpF l m) = cmpF l m) := by
            show _ = _; unfold cmp1 noName cmpS; rw [hx, hy]; simp at hs hn; simp [hs]; omega
          have hlm : Hid (lenF m = lenF l) := by show _ = _; simp at hn; omega
          go_enter Try.func11, Try.ntmps11
          go_wp2
          go_loopw [5, 6] (fun i _ wr => ∃ j : Nat, j ≤ lenF l ∧ i = .int .i64 j ∧ Pair w x a (lenF l) c y a' (lenF m) c' wr ∧ cmpF l m = cmpF (dropF j l) (dropF j m)) (fun i _ _ => lenF l - (intOf i).toNat)
          case atStart => exact ⟨0, Nat.zero_le _, rfl, PA.out, by rw [drop_zero, drop_zero]⟩
          case round =>
            obtain ⟨j, hj, rfl, hP, hcmp⟩ := hrel
            have t2 := hP.l.c2
            by_cases hlt : j < lenF l
            · obtain ⟨b1, o1, rfl, hk1⟩ := HA.out.args.get (by omega)
              obtain ⟨b2, o2, rfl, hk2⟩ := HB.out.args.get (by have := hlm.out; omega)
              obtain ⟨z, a1, c1, l1, kd⟩ := hk1.kid (k := j) hlt
              obtain ⟨z', a2, c2, l2, kd2⟩ := hk2.kid (k := j) (by have := hlm.out; omega)
              have kd' := kd.below hP.low
              have kd2' := kd2.below hP.low
              have HP : Hid (Pair w x (some ⟨b1, o1, none⟩) (lenF l) c y (some ⟨b2, o2, none⟩) (lenF m) c' wr) := hP
              have hC : Hid (∀ w', Below wr.heap.size wr w' → Calls Try.prog 11 #[.agg #[.string z.1, .int .i64 z.2, .slice a1 (lenF l1) c1], .agg #[.string z'.1, .int .i64 z'.2, .slice a2 (lenF l2) c2]] w' fun e w'' => e = .returned (.int .i64 (cmp1 z z' (lenF l1) (lenF l2) (cmpF l1 l2))) ∧ Below w'.heap.size w' w'') := fun w' hb =>
                IH.out (nodesF l1) (by have := kd.less; omega) z z' a1 a2 c1 c2 l1 l2 w' (Nat.le_refl _) (kd'.at_.below hb) (kd2'.at_.below hb)
              obtain ⟨B1, O1, s1⟩ := kd.split
              obtain ⟨B2, O2, s2⟩ := kd2.split
              rw [s1, s2, cmpF] at hcmp
              have HC : Hid (cmpF l m = thenC (cmp1 z z' (lenF l1) (lenF l2) (cmpF l1 l2)) (cmpF (dropF (j + 1) l) (dropF (j + 1) m))) := hcmp
              have hne := later_some wr
              have d0 := later_cell hP.l.c2
              have d1 := later_cell hP.r.c2
              have p0 := later_cell kd'.name; have p1 := later_cell kd'.sym; have p2 := later_cell kd'.list
              have q0 := later_cell kd2'.name; have q1 := later_cell kd2'.sym; have q2 := later_cell kd2'.list
              have hk0 : (0 : Int) ≤ (j : Int) := by omega
              have hkn : (j : Int) < (lenF l : Int) := by omega
              have hkm : (j : Int) < (lenF m : Int) := by have := hlm.out; omega
              clear kd kd2 kd' kd2' hk1 hk2 hP hcmp s1 s2
              go_wp2_with fail
              refine wp_region_later (by kernel_rfl) (by kernel_rfl) ?_
              repeat (go_big_quiet_step ((refine calls_later (hC.out _ ?_); exact Later.below _)))
              refine wpQuiet_nil ?_
              intro _ hw'
              obtain ⟨bl, hw''⟩ := hw'
              subst hw''
              have HP2 : Hid (Pair w x (some ⟨b1, o1, none⟩) (lenF l) c y (some ⟨b2, o2, none⟩) (lenF m) c' bl.now) := HP.out.below bl.below
              clear d0 d1 p0 p1 p2 q0 q1 q2 t2
              cases hz : (cmp1 z z' (lenF l1) (lenF l2) (cmpF l1 l2) != 0)
              · go_wp2
                go_roundw
                case rel => exact ⟨j + 1, by omega, by go_num, HP2.out, by rw [HC.out]; unfold thenC; rw [if_pos (by simpa using hz)]⟩
                case measure => simp [intOf]; omega
              · go_wp2
                go_ret
                refine ⟨?_, HP2.out.low⟩
                rw [hr.out, HC.out]; unfold thenC; rw [if_neg (by simpa using hz)]; rfl
            · have hz : cmpF l m = 0 := by
                rw [hcmp, show j = lenF l by omega, drop_end]; rfl
              go_wp2
              go_ret
              exact ⟨by rw [hr.out, hz]; rfl, hP.low⟩
        · have hr : Hid (cmp1 x y (lenF l) (lenF m) (cmpF l m) = Lib.compareInt (lenF l) (lenF m)) := by
            show _ = _; unfold cmp1 noName cmpS; rw [hx, hy]; simp at hs hn; simp [hs]; omega
          have hne : lenF l ≠ lenF m := by simp at hn; omega
          by_cases h1 : lenF l < lenF m
          · go_enter Try.func11, Try.ntmps11
            go_wp2
            go_ret
            refine ⟨?_, PA.out.low⟩
            rw [hr.out]; unfold Lib.compareInt; rw [if_pos (by omega)]; rfl
          · go_enter Try.func11, Try.ntmps11
            go_wp2
            go_ret
            refine ⟨?_, PA.out.low⟩
            rw [hr.out]; unfold Lib.compareInt; rw [if_neg (by omega), if_pos (by omega)]; rfl
      · have hr : Hid (cmp1 x y (lenF l) (lenF m) (cmpF l m) = Lib.compareInt x.2 y.2) := by
          show _ = _; unfold cmp1 noName cmpS; rw [hx, hy]; simp at hs; simp [hs]
        have hne : x.2 ≠ y.2 := by simpa using hs
        by_cases h1 : x.2 < y.2
        · go_enter Try.func11, Try.ntmps11
          go_wp2
          go_ret
          refine ⟨?_, PA.out.low⟩
          rw [hr.out]; unfold Lib.compareInt; rw [if_pos h1]; rfl
        · go_enter Try.func11, Try.ntmps11
          go_wp2
          go_ret
          refine ⟨?_, PA.out.low⟩
          rw [hr.out]; unfold Lib.compareInt; rw [if_neg (by omega), if_pos (by omega)]; rfl

end Go.Proofs.Ytlemkgdbefmeeab
/- What the document's Sorted answers: the terms in order, in a row of its own; their lists are those that came in. -/
namespace Go.Proofs.Ytlemkgdbefmeeab
open Go.RowKit Go.Deep

def Kv.tn (k : Kv) : Tn := (k.x, k.l)
set_option maxRecDepth 100000 in
/-- Where one is laid into a list in order: ahead of all that are greater. -/
theorem ins_at {x : Tn} : ∀ {l : List Tn} {n : Nat}, Srt l → n ≤ l.length → (∀ j y, n ≤ j → l[j]? = some y → cmpN y x > 0) → (n = 0 ∨ ∀ y, l[n - 1]? = some y → cmpN y x ≤ 0) → insN x l = l.take n ++ x :: l.drop n
  | [], n, _, hn, _, _ => by simp at hn; subst hn; rfl
  | y :: r, 0, _, _, h1, _ => by
    have := h1 0 y (Nat.le_refl _) rfl
    rw [insN, if_pos this]
    rfl
  | y :: r, n + 1, hs, hn, h1, h2 => by
    obtain ⟨s1, s2⟩ := List.pairwise_cons.1 hs
    simp only [List.length_cons] at hn
    rcases h2 with h2 | h2
    · omega
    have hlt : n < (y :: r).length := by simp; omega
    have h3 := h2 ((y :: r)[n]) (by rw [Nat.add_sub_cancel]; exact List.getElem?_eq_getElem hlt)
    have hy : ¬ cmpN y x > 0 := by
      have : leN y x := by
        cases n with
        | zero => exact h3
        | succ n => exact leN_trans (s1 _ (by simp)) h3
      unfold leN at this
      omega
    rw [insN, if_neg hy, ins_at (n := n) s2 (by omega) (fun j z hj hz => h1 (j + 1) z (by omega) (by simpa using hz)) (by
      cases n with
      | zero => exact .inl rfl
      | succ n => exact .inr (fun z hz => h2 z (by simpa using hz)))]
    rfl
set_option maxRecDepth 100000 in
theorem sortN_snoc (l : List Tn) (x : Tn) : sortN (l ++ [x]) = insN x (sortN l) := by
  unfold sortN
  rw [List.foldl_append]
  rfl

/-! ### lists of terms in memory -/
set_option maxRecDepth 100000 in
theorem kvCells_append (a b : List Kv) : kvCells (a ++ b) = kvCells a ++ kvCells b := by simp [kvCells]
set_option maxRecDepth 100000 in
theorem kvCells_one : ∀ ks : List Kv, ∀ u ∈ kvCells ks, u.oneCell' = true := fun ks u hu => by
  obtain ⟨k, _, h⟩ := List.mem_flatMap.1 hu
  exact kv_one k u h
set_option maxRecDepth 100000 in
theorem kvCells_drop (ks : List Kv) (n : Nat) : kvCells (ks.drop n) = (kvCells ks).drop (n * 3) := by
  induction n generalizing ks with
  | zero => simp
  | succ n ih =>
    cases ks with
    | nil => simp [kvCells]
    | cons k r =>
      rw [List.drop_succ_cons, ih r]
      show _ = (k.cells ++ kvCells r).drop ((n + 1) * 3)
      rw [List.drop_append, show (n + 1) * 3 - k.cells.length = n * 3 by rw [show k.cells.length = 3 from rfl]; omega, (List.drop_eq_nil_of_le (by rw [show k.cells.length = 3 from rfl]; omega) : k.cells.drop ((n + 1) * 3) = [])]
      rfl
set_option maxRecDepth 100000 in
theorem kvCells_take (ks : List Kv) (n : Nat) : kvCells (ks.take n) = (kvCells ks).take (n * 3) := by
  induction n generalizing ks with
  | zero => simp [kvCells]
  | succ n ih =>
    cases ks with
    | nil => simp [kvCells]
    | cons k r =>
      rw [List.take_succ_cons]
      show k.cells ++ kvCells (r.take n) = (k.cells ++ kvCells r).take ((n + 1) * 3)
      rw [ih r, List.take_append, show (n + 1) * 3 - k.cells.length = n * 3 by rw [show k.cells.length = 3 from rfl]; omega, List.take_of_length_le (l := k.cells) (by rw [show k.cells.length = 3 from rfl]; omega)]
/-- The slice with this address holds these terms' cells. -/
structure RowAt (w : World) (a : Option Addr) (n : Nat) (ks : List Kv) : Prop where
  len : n = ks.length
  cells : ∀ j u, (kvCells ks)[j]? = some u → ∃ b off, a = some ⟨b, off, none⟩ ∧ w.cell? ⟨b, off + j, none⟩ = some u
set_option maxRecDepth 100000 in
theorem RowAt.below {w w' : World} {a : Option Addr} {n : Nat} {ks : List Kv} (h : RowAt w a n ks) (hb : Below w.heap.size w w') : RowAt w' a n ks :=
  ⟨h.len, fun j u hu => by obtain ⟨b, off, ha, hc⟩ := h.cells j u hu; exact ⟨b, off, ha, below_cell hb _ _ hc⟩⟩
set_option maxRecDepth 100000 in
theorem kv_cells {ks : List Kv} {j : Nat} {k : Kv} (h : ks[j]? = some k) : (kvCells ks)[j * 3]? = some (.string k.x.1) ∧ (kvCells ks)[j * 3 + 1]? = some (.int .i64 k.x.2) ∧ (kvCells ks)[j * 3 + 2]? = some (.slice k.a (lenF k.l) k.c) := by
  have e := kvCells_drop ks j
  obtain ⟨hlt, hk⟩ := List.getElem?_eq_some_iff.1 h
  rw [List.drop_eq_getElem_cons hlt, hk] at e
  have e2 : ∀ i, i < 3 → (kvCells ks)[j * 3 + i]? = (k.cells)[i]? := fun i hi => by
    rw [← List.getElem?_drop, ← e]
    show (k.cells ++ kvCells _)[i]? = _
    rw [List.getElem?_append_left (by simp [Kv.cells]; exact hi)]
  exact ⟨e2 0 (by omega), e2 1 (by omega), e2 2 (by omega)⟩
set_option maxRecDepth 100000 in
/-- The cells of one of them. -/
theorem RowAt.get {w : World} {a : Option Addr} {n : Nat} {ks : List Kv} (h : RowAt w a n ks) {j : Nat} {k : Kv} (hk : ks[j]? = some k) : ∃ b off, a = some ⟨b, off, none⟩ ∧ w.cell? ⟨b, off + j * 3, none⟩ = some (.string k.x.1) ∧ w.cell? ⟨b, off + j * 3 + 1, none⟩ = some (.int .i64 k.x.2) ∧ w.cell? ⟨b, off + j * 3 + 2, none⟩ = some (.slice k.a (lenF k.l) k.c) := by
  obtain ⟨h0, h1, h2⟩ := kv_cells hk
  obtain ⟨b, off, rfl, c0⟩ := h.cells _ _ h0
  obtain ⟨_, _, e1, c1⟩ := h.cells _ _ h1
  obtain ⟨_, _, e2, c2⟩ := h.cells _ _ h2
  cases e1
  cases e2
  exact ⟨b, off, rfl, c0, by rw [← Nat.add_assoc] at c1; exact c1, by rw [← Nat.add_assoc] at c2; exact c2⟩
set_option maxRecDepth 100000 in
theorem row_of_owns {w : World} {base n : Nat} {v : Value} {ks : List Kv} (h : w.ownsRow base 26 3 v n (kvCells ks)) : ∃ a cap, v = .slice a n cap ∧ n ≤ cap ∧ cap ≤ maxLen ∧ RowAt w a n ks ∧ (a = none → n = 0 ∧ cap = 0) ∧ (∀ b off sp, a = some ⟨b, off, sp⟩ → base ≤ b ∧ off = 0 ∧ sp = none) := by
  have hl : ks.length = n := by have := h.1; rw [kvCells_len] at this; omega
  rcases h.2 with ⟨rfl, h0⟩ | ⟨g, cap, cur, rfl, hb, hg, hnc, hcm, hsz, hcur⟩
  · obtain rfl : ks = [] := List.length_eq_zero_iff.1 (hl.trans h0)
    exact ⟨none, 0, by rw [h0], by omega, by simp, ⟨by omega, fun j u hu => by simp [kvCells] at hu⟩, fun _ => ⟨h0, rfl⟩, fun b off sp e => by cases e⟩
  · exact ⟨_, cap, rfl, hnc, hcm, ⟨hl.symm, fun j u hu => ⟨g, 0, rfl, owns_at h j u hu⟩⟩, (fun e => by cases e), (fun b off sp e => by cases e; exact ⟨hb, rfl, rfl⟩)⟩

set_option maxRecDepth 100000 in
/-- append of what another slice holds, be it nil, be it empty. -/
theorem wpList_append_kvs {ops : Array Oper} {rest : List Oper} {o : Oper} {a : Act} {Q : Exit → Act → World → Prop} {W : World} (hgd : o.guard = none) (s x : Operand)
    (ho : o.op = .call { callee := .builtin .append, args := #[s, x], argTypes := #[24, 24] }) (base : Nat) (v : Value) (ks : List Kv) (hs : a.eval s = v) (hown : W.ownsRow base 26 3 v ks.length (kvCells ks))
    (sa : Option Addr) (m c : Nat) (ms : List Kv) (hx : a.eval x = .slice sa m c) (hm : RowAt W sa m ms) (hnil : sa = none → c = 0) (hbig : ks.length + m ≤ 4194304) (hbase : base ≤ W.heap.size)
    (h : ∀ v' w', w'.ownsRow base 26 3 v' (ks ++ ms).length (kvCells (ks ++ ms)) → W.grownBy w' v.ownBlock → wpList Try.prog ops Q rest (a.put o.dst v') w') : wpList Try.prog ops Q (o :: rest) a W := by
  obtain ⟨i0, hi, hz0, hz1, hz2⟩ := info_parts Try.info26
  have hmax : maxLen = 9223372036854775807 := rfl
  rcases sa with _ | ⟨b, off, sp⟩
  · obtain rfl : ms = [] := by
      cases ms with
      | nil => rfl
      | cons k r =>
        obtain ⟨_, _, e, _⟩ := hm.get (j := 0) (k := k) rfl
        cases e
    obtain rfl := hm.len
    obtain rfl := hnil rfl
    refine wpList_append_own_none hgd s x 24 ho base 26 i0 3 Try.underlying24 hi v ks.length (kvCells ks) hs hown hx (h v W (by simpa using hown) ?_)
    exact ⟨rfl, rfl, rfl, Nat.le_refl _, fun _ _ _ => rfl⟩
  · have hlm := hm.len
    refine wpList_append_own _ hgd s x 24 ho base 26 i0 _ 3 48 Try.underlying24 hi hz0 hz1 hz2 rfl (by decide) v ks.length (kvCells ks) hs hown ⟨b, off, sp⟩ m c (kvCells ms) hx (by rw [kvCells_len, hlm]) (fun j u hu => ?_) (kvCells_one ms) (by omega) (by omega) hbase ?_
    · obtain ⟨b', off', e, hc⟩ := hm.cells j u hu
      cases e
      rw [← hc]
      congr 1
      unfold Addr.add
      split <;> simp_all
    · intro v' w' h1 h2 _
      refine h v' w' ?_ h2
      rw [kvCells_append, List.length_append, ← hlm]
      exact h1
end Go.Proofs.Ytlemkgdbefmeeab
/- The walk of the document's Sorted. -/
namespace Go.Proofs.Ytlemkgdbefmeeab
open Go.RowKit Go.Deep

set_option maxRecDepth 100000 in
theorem RowAt.take {w : World} {a : Option Addr} {n : Nat} {ks : List Kv} (h : RowAt w a n ks) {p : Nat} (hp : p ≤ ks.length) : RowAt w a p (ks.take p) :=
  ⟨by simp; omega, fun j u hu => h.cells j u (by
    rw [kvCells_take, List.getElem?_take] at hu
    split at hu
    · exact hu
    · cases hu)⟩
set_option maxRecDepth 100000 in
theorem RowAt.drop {w : World} {g off n : Nat} {ks : List Kv} (h : RowAt w (some ⟨g, off, none⟩) n ks) {p : Nat} (_ : p ≤ ks.length) : RowAt w (some ⟨g, off + p * 3, none⟩) (n - p) (ks.drop p) :=
  ⟨by rw [List.length_drop, h.len], fun j u hu => by
    rw [kvCells_drop, List.getElem?_drop] at hu
    obtain ⟨b, o, e, hc⟩ := h.cells _ u hu
    cases e
    exact ⟨g, off + p * 3, rfl, by rw [Nat.add_assoc]; exact hc⟩⟩
set_option maxRecDepth 100000 in
theorem RowAt.empty (w : World) (a : Option Addr) : RowAt w a 0 [] := ⟨rfl, fun j u hu => by simp [kvCells] at hu⟩
set_option maxRecDepth 100000 in
theorem row_empty26 (w : World) : (w.alloc (.cells #[] 26)).ownsRow w.heap.size 26 3 (.slice (some ⟨w.heap.size, 0, none⟩) 0 0) 0 (kvCells []) :=
  ⟨rfl, .inr ⟨w.heap.size, 0, #[], rfl, Nat.le_refl _, World.alloc_heap_new w _, Nat.le_refl _, Nat.zero_le _, rfl, rfl⟩⟩
set_option maxRecDepth 100000 in
theorem RowAt.new (w : World) (k : Kv) : RowAt (w.alloc (.cells #[.string k.x.1, .int .i64 k.x.2, .slice k.a (lenF k.l) k.c] 26)) (some ⟨w.heap.size, 0, none⟩) 1 [k] :=
  ⟨rfl, fun j u hu => by
    refine ⟨w.heap.size, 0, rfl, ?_⟩
    have h := World.news_of_block (heap_alloc_new w (.cells #[.string k.x.1, .int .i64 k.x.2, .slice k.a (lenF k.l) k.c] 26)) j u (by simpa [kvCells, Kv.cells] using hu)
    rw [← h]
    congr 1
    unfold Addr.add
    split <;> simp_all⟩
/-- What the inner loop has found when it ends. -/
structure Found (out : List Kv) (k : Kv) (p : Nat) : Prop where
  le : p ≤ out.length
  gt : ∀ q y, p ≤ q → out[q]? = some y → cmpN y.tn k.tn > 0
  at_ : p = 0 ∨ ∀ y, out[p - 1]? = some y → cmpN y.tn k.tn ≤ 0
set_option maxRecDepth 100000 in
theorem Found.ins {out : List Kv} {k : Kv} {p : Nat} (h : Found out k p) (hs : Srt (out.map Kv.tn)) : (out.take p ++ [k] ++ out.drop p).map Kv.tn = insN k.tn (out.map Kv.tn) := by
  rw [ins_at hs (n := p) (by simpa using h.le) (fun j y hj hy => by
    rw [List.getElem?_map, Option.map_eq_some_iff] at hy
    obtain ⟨z, hz, rfl⟩ := hy
    exact h.gt j z hj hz) (by
    rcases h.at_ with h0 | h0
    · exact .inl h0
    · refine .inr (fun y hy => ?_)
      rw [List.getElem?_map, Option.map_eq_some_iff] at hy
      obtain ⟨z, hz, rfl⟩ := hy
      exact h0 z hz)]
  simp

end Go.Proofs.Ytlemkgdbefmeeab
