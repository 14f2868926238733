/- What List answers. -/
import Derived.Test.YtlbmamkkbpjafabBLen
import Derived.Laws.MakeOwn
namespace Go.Proofs.Ytlbmamkkbpjafab
open Go.RowKit Go.Deep

theorem Try.info26 : (Try.prog.info? 26).map (fun i => (i.zero, i.size, i.bytes)) = some (some (.agg #[.int .i64 0, .int .i64 0]), 2, 16) := by kernel_rfl
def listP (l : List It) : List Th := l.flatMap fun y => List.replicate y.2.toNat y.1
def thCells (x : Th) : List Value := [.int .i64 x.1, .int .i64 x.2]
def thAll (l : List Th) : List Value := l.flatMap thCells
theorem thAll_len : ∀ l : List Th, (thAll l).length = l.length * 2
  | [] => rfl
  | x :: r => by
    show (thCells x ++ thAll r).length = _
    rw [List.length_append, thAll_len r]
    show 2 + _ = (r.length + 1) * 2
    omega
theorem thAll_append (a b : List Th) : thAll (a ++ b) = thAll a ++ thAll b := by simp [thAll]
theorem listP_take (l : List It) (i : Nat) (h : i < l.length) : listP (l.take (i + 1)) = listP (l.take i) ++ List.replicate l[i].2.toNat l[i].1 := by
  unfold listP
  rw [List.take_succ_eq_append_getElem h, List.flatMap_append]
  simp
theorem listP_sum : ∀ (l : List It), (∀ i (h : i < l.length), 0 ≤ l[i].2) → sumN l = ((listP l).length : Int)
  | [], _ => rfl
  | y :: r, h => by
    have h1 := listP_sum r (fun i hi => h (i + 1) (by simpa using hi))
    have h2 : (0 : Int) ≤ y.2 := h 0 (by simp)
    show y.2 + sumN r = ((List.replicate y.2.toNat y.1 ++ listP r).length : Int)
    rw [h1, List.length_append, List.length_replicate]
    omega
theorem listP_le (l : List It) (i : Nat) : (listP (l.take i)).length ≤ (listP l).length := by
  have h : listP l = listP (l.take i) ++ listP (l.drop i) := by
    unfold listP
    rw [← List.flatMap_append, List.take_append_drop]
  rw [h, List.length_append]
  omega
end Go.Proofs.Ytlbmamkkbpjafab
