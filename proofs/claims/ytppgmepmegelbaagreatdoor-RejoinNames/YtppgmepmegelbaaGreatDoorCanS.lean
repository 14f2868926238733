/- Canonical forms, without any program: no more nodes, the same variables, parts in order and joined again. -/
import Derived.Test.YtppgmepmegelbaaGreatDoorCanQ
namespace Go.Proofs.YtppgmepmegelbaaGreatDoor
open Go.RowKit Go.Deep

/-! ### how many nodes -/
def sizeT (t : Tn) : Nat := nodesF t.2 + 1
def sizes (l : List Tn) : Nat := (l.map sizeT).sum
theorem sizes_nil : sizes [] = 0 := rfl
theorem sizes_cons (t : Tn) (l : List Tn) : sizes (t :: l) = sizeT t + sizes l := by simp [sizes]
theorem sizes_append : ∀ l m : List Tn, sizes (l ++ m) = sizes l + sizes m
  | [], _ => by simp [sizes_nil]
  | t :: l, m => by rw [List.cons_append, sizes_cons, sizes_cons, sizes_append l m]; omega
theorem sizes_perm {l m : List Tn} (h : List.Perm l m) : sizes l = sizes m := by
  induction h with
  | nil => rfl
  | cons x _ ih => rw [sizes_cons, sizes_cons, ih]
  | swap x y l => simp only [sizes_cons]; omega
  | trans _ _ h1 h2 => exact h1.trans h2
theorem nodes_sizes : ∀ F : Fo, nodesF F = sizes (kidsL F)
  | .nil => rfl
  | .node _ _ x l r => by
    rw [kidsL, sizes_cons, ← nodes_sizes r]
    simp only [nodesF, sizeT]
    omega
theorem nodes_mk (l : List Tn) : nodesF (mkF l) = sizes l := by rw [nodes_sizes, kids_mk]
theorem parts_size (S : Sg) (f : Int) (t : Tn) : sizes (partsN S f t) ≤ sizeT t := by
  unfold partsN
  split
  · simp [sizes_cons, sizes_nil]
  · split
    · simp [sizes_nil]
    · split
      · rw [← nodes_sizes]; unfold sizeT; omega
      · simp [sizes_cons, sizes_nil]
theorem flat_size (S : Sg) (f : Int) : ∀ cs : List Tn, sizes (cs.flatMap (partsN S f)) ≤ sizes cs
  | [] => Nat.le_refl _
  | c :: r => by
    rw [List.flatMap_cons, sizes_append, sizes_cons]
    have := parts_size S f c
    have := flat_size S f r
    omega
theorem join_size {S : Sg} {f : Int} {l : List Tn} {t : Tn} (h : joinL S f l = some t) : sizeT t ≤ sizes l + 1 := by
  match l, h with
  | [], h =>
    simp only [joinL, Option.map_eq_some_iff] at h
    obtain ⟨u, _, rfl⟩ := h
    simp [sizeT, constT, nodesF]
  | [a], h =>
    simp only [joinL, Option.some.injEq] at h
    subst h
    simp [sizes_cons, sizes_nil]
  | a :: b :: r, h =>
    simp only [joinL, Option.some.injEq] at h
    subst h
    show nodesF (mkF (sortN (a :: b :: r))) + 1 ≤ _
    rw [nodes_mk, sizes_perm (sortN_perm _)]
    exact Nat.le_refl _
theorem canon1_size (S : Sg) (x : ByteArray × Int) (cs : List Tn) : sizeT (canon1 S x cs) ≤ sizes cs + 1 := by
  unfold canon1
  split
  · simp [sizeT, nodesF]
  · split
    · unfold joinN
      split
      · simp [sizeT, constT, nodesF]
      · cases h : joinL S x.2 (cs.flatMap (partsN S x.2)) with
        | none => simp [sizeT, constT, nodesF]
        | some t =>
          have := join_size h
          have := flat_size S x.2 cs
          simp only [Option.getD_some]
          omega
    · show nodesF (mkF cs) + 1 ≤ _
      rw [nodes_mk]
      exact Nat.le_refl _
theorem canonL_size (S : Sg) : ∀ F : Fo, sizes (canonL S F) ≤ nodesF F
  | .nil => Nat.le_refl _
  | .node _ _ x l r => by
    rw [canonL, sizes_cons, nodesF]
    have := canon1_size S x (canonL S l)
    have := canonL_size S l
    have := canonL_size S r
    omega
theorem canonT_size (S : Sg) (t : Tn) : nodesF (canonT S t).2 + 1 ≤ nodesF t.2 + 1 := by
  have := canon1_size S t.1 (canonL S t.2)
  have := canonL_size S t.2
  show sizeT (canonT S t) ≤ _
  unfold canonT
  omega

/-! ### which variables -/
def inF (nm : List UInt8) : Fo → Prop
  | .nil => False
  | .node _ _ x l r => ((noName x.1 = false ∧ x.1.data.toList = nm) ∨ inF nm l) ∨ inF nm r
def inT (nm : List UInt8) (t : Tn) : Prop := (noName t.1.1 = false ∧ t.1.1.data.toList = nm) ∨ inF nm t.2
theorem inF_kids {nm : List UInt8} : ∀ {F : Fo}, inF nm F ↔ ∃ k ∈ kidsL F, inT nm k
  | .nil => by simp [inF, kidsL]
  | .node _ _ x l r => by
    rw [inF, inF_kids (F := r), kidsL]
    constructor
    · rintro (h | ⟨k, hk, h⟩)
      · exact ⟨(x, l), by simp, h⟩
      · exact ⟨k, by simp [hk], h⟩
    · rintro ⟨k, hk, h⟩
      rcases List.mem_cons.1 hk with rfl | hk
      · exact .inl h
      · exact .inr ⟨k, hk, h⟩
theorem inT_none {nm : List UInt8} {f : Int} {l : Fo} : inT nm ((noB, f), l) ↔ inF nm l := by
  unfold inT
  simp [noName_noB]
theorem parts_in {S : Sg} {ar : Int → Nat} {f : Int} {c : Tn} {nm : List UInt8} (hj : S.joins f = true) (h : CanT S ar c) : inT nm c ↔ ∃ p ∈ partsN S f c, inT nm p := by
  unfold partsN
  rw [if_neg (by simp [hj])]
  cases hu : isUn S f c with
  | true =>
    obtain ⟨u, _, rfl⟩ := isUn_some hu
    unfold constT
    rw [inT_none]
    simp [inF]
  | false =>
    cases hh : headed f c with
    | true =>
      obtain ⟨c1, _, _, _⟩ := can_head hj h hh
      obtain ⟨x, l⟩ := c
      dsimp only at c1
      subst c1
      rw [inT_none, inF_kids]
      simp
    | false => simp
theorem join_in {S : Sg} {f : Int} {l : List Tn} {t : Tn} {nm : List UInt8} (h : joinL S f l = some t) : inT nm t ↔ ∃ p ∈ l, inT nm p := by
  match l, h with
  | [], h =>
    simp only [joinL, Option.map_eq_some_iff] at h
    obtain ⟨u, _, rfl⟩ := h
    unfold constT
    rw [inT_none]
    simp [inF]
  | [a], h =>
    simp only [joinL, Option.some.injEq] at h
    subst h
    simp
  | a :: b :: r, h =>
    simp only [joinL, Option.some.injEq] at h
    subst h
    rw [inT_none, inF_kids, kids_mk]
    constructor
    · rintro ⟨k, hk, h⟩; exact ⟨k, (sortN_perm _).mem_iff.1 hk, h⟩
    · rintro ⟨k, hk, h⟩; exact ⟨k, (sortN_perm _).mem_iff.2 hk, h⟩
theorem canon1_in {S : Sg} {ar : Int → Nat} {x : ByteArray × Int} {l : Fo} {cs : List Tn} {nm : List UInt8} (hn : nodeOk S ar x (lenF l)) (hl : cs.length = lenF l) (hc : ∀ c ∈ cs, CanT S ar c) (h : (∃ c ∈ cs, inT nm c) ↔ inF nm l) : inT nm (canon1 S x cs) ↔ inT nm (x, l) := by
  unfold nodeOk at hn
  cases hx : noName x.1 with
  | false =>
    rw [if_pos hx] at hn
    have e : l = .nil := len_nil hn.2
    subst e
    unfold canon1
    rw [if_pos hx]
    unfold inT
    simp [inF]
  | true =>
    have ex : x = (noB, x.2) := Prod.ext (noName_eq hx) rfl
    rw [if_neg (by simp [hx])] at hn
    have h2 : inT nm (x, l) ↔ inF nm l := by rw [ex]; exact inT_none
    rw [h2, ← h]
    cases hj : S.joins x.2 with
    | true =>
      rw [if_pos hj] at hn
      have hne : cs ≠ [] := fun e => by rw [e] at hl; simp at hl; omega
      rw [join_in (canon1_join hx hj hc hne)]
      constructor
      · rintro ⟨p, hp, hi⟩
        obtain ⟨c, h3, h4⟩ := List.mem_flatMap.1 hp
        exact ⟨c, h3, (parts_in hj (hc c h3)).2 ⟨p, h4, hi⟩⟩
      · rintro ⟨c, h3, hi⟩
        obtain ⟨p, h4, h5⟩ := (parts_in hj (hc c h3)).1 hi
        exact ⟨p, List.mem_flatMap.2 ⟨c, h3, h4⟩, h5⟩
    | false =>
      unfold canon1
      rw [if_neg (by simp [hx]), if_neg (by simp [hj]), inT_none, inF_kids, kids_mk]
theorem canonL_in {S : Sg} {ar : Int → Nat} (hS : S.Ok ar) {nm : List UInt8} : ∀ {F : Fo}, RightF S ar F → ((∃ c ∈ canonL S F, inT nm c) ↔ inF nm F)
  | .nil, _ => by simp [canonL, inF]
  | .node _ _ x l r, ⟨⟨h1, h2⟩, h3⟩ => by
    have e := canon1_in h1 (by rw [canonL_map, List.length_map, kids_len]) (canonL_can hS h2) (canonL_in hS (nm := nm) h2)
    rw [inF, ← canonL_in hS h3, canonL]
    constructor
    · rintro ⟨c, hc, hi⟩
      rcases List.mem_cons.1 hc with rfl | hc
      · exact .inl (e.1 hi)
      · exact .inr ⟨c, hc, hi⟩
    · rintro (h | ⟨c, hc, hi⟩)
      · exact ⟨_, List.mem_cons_self, e.2 h⟩
      · exact ⟨c, List.mem_cons_of_mem _ hc, hi⟩
theorem canonT_in {S : Sg} {ar : Int → Nat} (hS : S.Ok ar) {nm : List UInt8} {t : Tn} (h : RightT S ar t) : inT nm (canonT S t) ↔ inT nm t :=
  canon1_in h.1 (by rw [canonL_map, List.length_map, kids_len]) (canonL_can hS h.2) (canonL_in hS h.2)

/-! ### parts, in order and joined again -/
theorem parts_srt {S : Sg} {ar : Int → Nat} {f : Int} {t : Tn} (hj : S.joins f = true) (h : CanT S ar t) : Srt (partsN S f t) := by
  unfold partsN
  rw [if_neg (by simp [hj])]
  cases isUn S f t with
  | true => simp
  | false =>
    cases hh : headed f t with
    | true => simpa using (can_head hj h hh).2.2.1
    | false => simp
theorem map_can {S : Sg} {ar : Int → Nat} {l : List Tn} (h : ∀ p ∈ l, CanT S ar p) : l.map (canonT S) = l := by
  induction l with
  | nil => rfl
  | cons a r ih => rw [List.map_cons, canonT_id (h a (by simp)), ih (fun p hp => h p (by simp [hp]))]
/-- Join of a canonical term's parts. -/
theorem join_back {S : Sg} {ar : Int → Nat} {f : Int} {t : Tn} (hj : S.joins f = true) (h : CanT S ar t) : joinN S f ((partsN S f t).map (canonT S)) = some t := by
  rw [map_can (fun p hp => (parts_good hj h p hp).can)]
  unfold joinN
  rw [if_neg (by simp [hj]), flat_self (parts_good hj h)]
  exact join_parts hj h
/-- Join of the parts of two. -/
theorem join_two {S : Sg} {ar : Int → Nat} {f : Int} {a b : Tn} (hj : S.joins f = true) (ha : CanT S ar a) (hb : CanT S ar b) : joinN S f ((partsN S f a ++ partsN S f b).map (canonT S)) = joinL S f (partsN S f a ++ partsN S f b) := by
  have hg : ∀ p ∈ partsN S f a ++ partsN S f b, Good S ar f p := fun p hp => by
    rcases List.mem_append.1 hp with h | h
    · exact parts_good hj ha p h
    · exact parts_good hj hb p h
  rw [map_can (fun p hp => (hg p hp).can)]
  unfold joinN
  rw [if_neg (by simp [hj]), flat_self hg]
end Go.Proofs.YtppgmepmegelbaaGreatDoor
