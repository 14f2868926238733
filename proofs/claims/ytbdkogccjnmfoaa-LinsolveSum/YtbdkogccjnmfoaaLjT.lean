/- LinsolveSum: the walk. -/
import Derived.Test.YtbdkogccjnmfoaaLjQ
import Derived.Test.YtbdkogccjnmfoaaLjC
import Derived.Test.YtbdkogccjnmfoaaLiX
import Derived.Test.YtbdkogccjnmfoaaLiR
import Derived.Test.YtbdkogccjnmfoaaLiP
import Derived.Test.YtbdkogccjnmfoaaLiU
import Derived.Test.YtbdkogccjnmfoaaLiY
import Derived.Deep.RegionHeld3
import Derived.Deep.CutBlock
import Derived.Deep.RegionWith
import Derived.BigRegion
import Derived.Deep.DeepCutAuto
namespace Go.Proofs.Ytbdkogccjnmfoaa
open Go.RowKit Go.Shelf

/-- How far a vector is made. -/
structure Far (a b : List Int) (w2 : World) (g j : Nat) (V : List Int) (W : World) : Prop where
  bl : Bl W g V
  len : V.length = a.length + b.length
  small : ∀ y ∈ V, 0 ≤ y ∧ y ≤ 49
  zero : ∀ k, j ≤ k → V.getD k 0 = 0
  bel : Below w2.heap.size w2 W
theorem set_small {V : List Int} {M : Int} (h : ∀ y ∈ V, 0 ≤ y ∧ y ≤ M) (j : Nat) (r : Int) (hr : 0 ≤ r ∧ r ≤ M) : ∀ y ∈ V.set j r, 0 ≤ y ∧ y ≤ M := fun y hy => by
  rcases List.mem_or_eq_of_mem_set hy with h1 | rfl
  · exact h y h1
  · exact hr
theorem set_zero {V : List Int} {j : Nat} (h : ∀ k, j ≤ k → V.getD k 0 = 0) (r : Int) : ∀ k, j + 1 ≤ k → (V.set j r).getD k 0 = 0 := fun k hk => by
  rw [List.getD_eq_getElem?_getD, List.getElem?_set_ne (by omega), ← List.getD_eq_getElem?_getD]
  exact h k (by omega)
/-- What was taken. -/
def subV (F L : List Int) : List Int := List.zipWith (fun x y => x - y) F L
theorem sub_len (F L : List Int) (h : L.length = F.length) : (subV F L).length = F.length := by unfold subV; rw [List.length_zipWith, h, Nat.min_self]
theorem sub_get (F L : List Int) (k : Nat) (h1 : k < F.length) (h2 : k < L.length) : (subV F L)[k]? = some (F[k] - L[k]) := by
  unfold subV
  rw [List.getElem?_zipWith, List.getElem?_eq_getElem h1, List.getElem?_eq_getElem h2]
theorem sub_set (F : List Int) (L : List Int) (k : Nat) (y : Int) (h1 : k < F.length) (h2 : k < L.length) : subV F (L.set k y) = (subV F L).set k (F[k] - y) := by
  unfold subV
  refine List.ext_getElem? (fun i => ?_)
  rw [List.getElem?_zipWith, List.getElem?_set, List.getElem?_set, List.getElem?_zipWith]
  by_cases hk : k = i
  · subst hk
    simp [h1, h2]
    omega
  · simp [hk]
theorem sub_self (F : List Int) : ∀ (L : List Int), L = F → subV F L = List.replicate F.length 0 := by
  intro L h
  subst h
  unfold subV
  refine List.ext_getElem (by simp) (fun i h1 h2 => ?_)
  simp
theorem sub_none (F L : List Int) (hl : L.length = F.length) (h : ∀ x ∈ L, x = 0) : subV F L = F := by
  refine List.ext_getElem? (fun i => ?_)
  by_cases hi : i < F.length
  · rw [sub_get F L i hi (by omega), List.getElem?_eq_getElem hi, h _ (List.getElem_mem (show i < L.length by omega)), Int.sub_zero]
  · rw [List.getElem?_eq_none (by rw [sub_len F L hl]; omega), List.getElem?_eq_none (by omega)]
theorem expr_get : ∀ (ls : List (List Int)) (v : List Int) (i : Nat) (hi : i < ls.length), (exprA ls v).1[i]? = some (fitN ls[i] (exprA (ls.take i) v).2) := by
  intro ls
  induction ls with
  | nil => intro v i hi; exact absurd hi (Nat.not_lt_zero i)
  | cons w ws ih =>
    intro v i hi
    cases i with
    | zero => rfl
    | succ i => exact ih (takeN (fitN w v) w v) i (by simpa using hi)
/-- The first of the numbers made more. -/
def mulA (V : List Int) (B : Int) (j : Nat) : List Int := (V.take j).map (fun x => x * B) ++ V.drop j
theorem mul_zero' (V : List Int) (B : Int) : mulA V B 0 = V := by simp [mulA]
theorem mul_all (V : List Int) (B : Int) : mulA V B V.length = V.map (fun x => x * B) := by simp [mulA]
theorem mul_len (V : List Int) (B : Int) (j : Nat) (hj : j ≤ V.length) : (mulA V B j).length = V.length := by simp [mulA]; omega
theorem mul_get (V : List Int) (B : Int) (j : Nat) (hj : j < V.length) : (mulA V B j)[j]? = some V[j] := by
  unfold mulA
  rw [List.getElem?_append_right (by simp; omega), List.getElem?_drop]
  simp
  rw [show j + (j - min j V.length) = j by omega, List.getElem?_eq_getElem hj]
theorem mul_step (V : List Int) (B : Int) (j : Nat) (hj : j < V.length) : (mulA V B j).set j (V[j] * B) = mulA V B (j + 1) := by
  unfold mulA
  have e : j - ((V.take j).map (fun x => x * B)).length = 0 := by simp; omega
  rw [List.set_append_right _ _ (by simp; omega), e, List.drop_eq_getElem_cons hj, List.set_cons_zero, List.take_add_one, List.getElem?_eq_getElem hj, List.map_append, List.append_assoc]
  rfl
def rt : Code → Code
  | .seq _ b => b
  | c => c
end Go.Proofs.Ytbdkogccjnmfoaa
