/- What made answers: a bag and the document's bag of these things. -/
import Derived.Test.YtlbmamkkbpjafabBPl2
import Derived.Deep.RegionWith
namespace Go.Proofs.Ytlbmamkkbpjafab
open Go.RowKit Go.Deep

theorem set1 {W : World} {g : Nat} {u v : Value} {t : TypeId} (h : W.heap[g]? = some (.cells #[u] t (0, 0))) : (W.setCell ⟨g, 0, none⟩ v).heap[g]? = some (.cells #[v] t (0, 0)) := block_set h v
theorem bag_far {W : World} {base B : Nat} {l : List It} {p : Option Addr} {c : Nat} (h : BagAt base B W l p c) {Y i : Nat} {cs : Array Value} {t : TypeId} (hY : W.heap[Y]? = some (.cells cs t (0, 0))) (h1 : t ≠ 42) (h2 : t ≠ 32) (u : Value) : BagAt base B (W.setCell ⟨Y, i, none⟩ u) l p c := by
  have hne := bag_apart h hY h1 h2
  exact ⟨(set_far (fun e => hne (.inl e.symm)) _).trans h.1, owns_fr h.2.1 (fr_set W Y i u) (fun k hk e => hne (.inr (by rw [← own_eq p l.length c, hk, e]))), h.2.2⟩
theorem cnt_bd {l : List It} (hy : ∀ y ∈ l, 1 ≤ y.2) (k : Int) : 0 ≤ cntK k l ∧ cntK k l ≤ sumN l := by
  cases hth : thereB k l with
  | false =>
    have hc0 : cntK k l = 0 := by unfold cntK; rw [hth]; rfl
    have := sumN_nn l hy
    omega
  | true =>
    obtain ⟨hp, _⟩ := there_lt hth
    rw [cnt_there hth hp]
    have := sumN_le l hy _ hp
    omega
theorem add1_ok (x : Th) (l : List It) (hy : ∀ y ∈ l, 1 ≤ y.2) : (addP x 1 l).1 = true := by
  have h := cnt_bd hy x.1
  unfold addP
  rw [if_neg (by decide), if_neg (by omega), if_neg (by omega)]
  split <;> rfl
/-- One thing more. -/
def add1 (m : List It) (x : Th) : List It := (addP x 1 m).2
/-- The bag of these things. -/
def mkP (l : List Th) : List It := l.foldl add1 []
theorem mkP_snoc (l : List Th) (x : Th) : mkP (l ++ [x]) = add1 (mkP l) x := by unfold mkP; rw [List.foldl_append]; rfl
theorem mkP_take (l : List Th) (i : Nat) (h : i < l.length) : mkP (l.take (i + 1)) = add1 (mkP (l.take i)) l[i] := by rw [List.take_succ_eq_append_getElem h, mkP_snoc]
theorem mkP_all (l : List Th) : Srt (mkP l) ∧ (∀ y ∈ mkP l, 1 ≤ y.2) ∧ sumN (mkP l) = l.length := by
  suffices h : ∀ (r : List Th), Srt (mkP r.reverse) ∧ (∀ y ∈ mkP r.reverse, 1 ≤ y.2) ∧ sumN (mkP r.reverse) = r.reverse.length by
    have := h l.reverse
    rwa [List.reverse_reverse] at this
  intro r
  induction r with
  | nil => exact ⟨fun i j hi => absurd hi (Nat.not_lt_zero _), fun y hy => absurd hy (by simp [mkP]), rfl⟩
  | cons x r ih =>
    rw [List.reverse_cons, mkP_snoc]
    refine ⟨addP_srt x 1 _ ih.1, addP_pos x 1 _ ih.2.1, ?_⟩
    show sumN (addP x 1 (mkP r.reverse)).2 = _
    rw [addP_sum, if_pos (add1_ok x _ ih.2.1), ih.2.2, List.length_append]
    rfl
end Go.Proofs.Ytlbmamkkbpjafab
