/- What the document's Units makes. -/
import Derived.Test.YtplekhfnidhcoaaRPlain
import Derived.Test.YtplekhfnidhcoaaUnit
namespace Go.Proofs.Ytplekhfnidhcoaa
open Go.RowKit

/-- Is this place told by Unit of some symbol? -/
def isU (l : List Sym) (i : Nat) : Bool := (List.range l.length).any fun k => unitAt l k == some i
/-- The places below i that are. -/
def refTo (l : List Sym) (i : Nat) : List Int := ((List.range i).filter (isU l)).map fun (k : Nat) => (k : Int)
theorem refTo_zero (l : List Sym) : refTo l 0 = [] := rfl
theorem refTo_yes {l : List Sym} {i : Nat} (h : isU l i = true) : refTo l (i + 1) = refTo l i ++ [(i : Int)] := by
  simp [refTo, List.range_succ, List.filter_append, h]
theorem refTo_no {l : List Sym} {i : Nat} (h : isU l i = false) : refTo l (i + 1) = refTo l i := by
  simp [refTo, List.range_succ, List.filter_append, h]
theorem refTo_le (l : List Sym) (i : Nat) : (refTo l i).length ≤ i := by
  unfold refTo
  rw [List.length_map]
  exact Nat.le_trans (List.length_filter_le _ _) (by simp)
theorem isU_hit {l : List Sym} {i k : Nat} (hk : k < l.length) (h : unitAt l k = some i) : isU l i = true := by
  unfold isU
  rw [List.any_eq_true]
  exact ⟨k, by simpa using hk, by simp [h]⟩
theorem isU_miss {l : List Sym} {i : Nat} (h : ∀ k, k < l.length → unitAt l k ≠ some i) : isU l i = false := by
  unfold isU
  rw [List.any_eq_false]
  intro k hk
  simp at hk
  simp [h k hk]
theorem unit_yes {l : List Sym} {k i : Nat} (h1 : unitOk l k = true) (h2 : (unitI l k == (i : Int)) = true) : unitAt l k = some i := by
  unfold unitOk at h1
  obtain ⟨j, hj⟩ := Option.isSome_iff_exists.1 h1
  simp [unitI, hj] at h2
  rw [hj]; congr; omega
theorem unit_no1 {l : List Sym} {k i : Nat} (h1 : unitOk l k = false) : unitAt l k ≠ some i := fun e => by simp [unitOk, e] at h1
theorem unit_no2 {l : List Sym} {k i : Nat} (h2 : (unitI l k == (i : Int)) = false) : unitAt l k ≠ some i := fun e => by simp [unitI, e] at h2

def ints (zs : List Int) : List Value := zs.map (Value.int .i64)
theorem ints_one (zs : List Int) : ∀ u ∈ ints zs, u.oneCell' = true := by
  intro u hu
  obtain ⟨z, _, rfl⟩ := List.mem_map.1 hu
  rfl
theorem int_news (w : World) (H : Nat) (hH : w.heap.size = H) (z : Int) : ∀ j u, (ints [z])[j]? = some u → (w.alloc (.cells #[.int .i64 z] 3)).cell? ((⟨H, 0, none⟩ : Addr).add j) = some u := by
  subst hH
  exact World.news_of_block (cs := #[.int .i64 z]) (t := 3) (fr := (0, 0)) (heap_alloc_new w _)
theorem Try.info3s : (Try.prog.info? 3).map (fun i => (i.zero, i.size, i.bytes)) = some (some (.int .i64 0), 1, 8) := by kernel_rfl

end Go.Proofs.Ytplekhfnidhcoaa
