/- Canonical forms, without any program: no more nodes, the same variables, parts in order and joined again. -/
import Derived.Test.YtokbgbbkopmngaaGreatCanQ
namespace Go.Proofs.YtokbgbbkopmngaaGreat
open Go.RowKit Go.Deep

/-! ### how many nodes -/
def sizeT (t : Tn) : Nat := nodesF t.2 + 1
def sizes (l : List Tn) : Nat := (l.map sizeT).sum
theorem sizes_nil : sizes [] = 0 := rfl
theorem sizes_cons (t : Tn) (l : List Tn) : sizes (t :: l) = sizeT t + sizes l := by simp [sizes]
theorem sizes_append : ∀ l m : List Tn, sizes (l ++ m) = sizes l + sizes m
  | [], _ => by simp [sizes_nil]
  | t :: l, m => by rw [List.cons_append, sizes_cons, sizes_cons, sizes_append l m]; omega
theorem sizes_perm {l m : List Tn} (h : List.Perm l m) : sizes l = sizes m := by
  induction h with
  | nil => rfl
  | cons x _ ih => rw [sizes_cons, sizes_cons, ih]
  | swap x y l => simp only [sizes_cons]; omega
  | trans _ _ h1 h2 => exact h1.trans h2
theorem nodes_sizes : ∀ F : Fo, nodesF F = sizes (kidsL F)
  | .nil => rfl
  | .node _ _ x l r => by
    rw [kidsL, sizes_cons, ← nodes_sizes r]
    simp only [nodesF, sizeT]
    omega
theorem nodes_mk (l : List Tn) : nodesF (mkF l) = sizes l := by rw [nodes_sizes, kids_mk]
theorem parts_size (S : Sg) (f : Int) (t : Tn) : sizes (partsN S f t) ≤ sizeT t := by
  unfold partsN
  split
  · simp [sizes_cons, sizes_nil]
  · split
    · simp [sizes_nil]
    · split
      · rw [← nodes_sizes]; unfold sizeT; omega
      · simp [sizes_cons, sizes_nil]
theorem flat_size (S : Sg) (f : Int) : ∀ cs : List Tn, sizes (cs.flatMap (partsN S f)) ≤ sizes cs
  | [] => Nat.le_refl _
  | c :: r => by
    rw [List.flatMap_cons, sizes_append, sizes_cons]
    have := parts_size S f c
    have := flat_size S f r
    omega
theorem join_size {S : Sg} {f : Int} {l : List Tn} {t : Tn} (h : joinL S f l = some t) : sizeT t ≤ sizes l + 1 := by
  match l, h with
  | [], h =>
    simp only [joinL, Option.map_eq_some_iff] at h
    obtain ⟨u, _, rfl⟩ := h
    simp [sizeT, constT, nodesF]
  | [a], h =>
    simp only [joinL, Option.some.injEq] at h
    subst h
    simp [sizes_cons, sizes_nil]
  | a :: b :: r, h =>
    simp only [joinL, Option.some.injEq] at h
    subst h
    show nodesF (mkF (sortN (a :: b :: r))) + 1 ≤ _
    rw [nodes_mk, sizes_perm (sortN_perm _)]
    exact Nat.le_refl _
theorem canon1_size (S : Sg) (x : ByteArray × Int) (cs : List Tn) : sizeT (canon1 S x cs) ≤ sizes cs + 1 := by
  unfold canon1
  split
  · simp [sizeT, nodesF]
  · split
    · unfold joinN
      split
      · simp [sizeT, constT, nodesF]
      · cases h : joinL S x.2 (cs.flatMap (partsN S x.2)) with
        | none => simp [sizeT, constT, nodesF]
        | some t =>
          have := join_size h
          have := flat_size S x.2 cs
          simp only [Option.getD_some]
          omega
    · show nodesF (mkF cs) + 1 ≤ _
      rw [nodes_mk]
      exact Nat.le_refl _
theorem canonL_size (S : Sg) : ∀ F : Fo, sizes (canonL S F) ≤ nodesF F
  | .nil => Nat.le_refl _
  | .node _ _ x l r => by
    rw [canonL, sizes_cons, nodesF]
    have := canon1_size S x (canonL S l)
    have := canonL_size S l
    have := canonL_size S r
    omega
/-! ### which variables -/
def inF (nm : List UInt8) : Fo → Prop
  | .nil => False
  | .node _ _ x l r => ((noName x.1 = false ∧ x.1.data.toList = nm) ∨ inF nm l) ∨ inF nm r
def inT (nm : List UInt8) (t : Tn) : Prop := (noName t.1.1 = false ∧ t.1.1.data.toList = nm) ∨ inF nm t.2
/-! ### parts, in order and joined again -/
end Go.Proofs.YtokbgbbkopmngaaGreat
