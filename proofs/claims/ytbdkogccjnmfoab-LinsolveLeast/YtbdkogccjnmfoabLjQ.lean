/- Plain: what vectors come to. -/
import Derived.Test.YtbdkogccjnmfoabLjP
namespace Go.Proofs.Ytbdkogccjnmfoab
open Go.RowKit Go.Shelf

theorem getD_lt (l : List Int) (i : Nat) (h : i < l.length) : l.getD i 0 = l[i] := by
  rw [List.getD_eq_getElem?_getD, List.getElem?_eq_getElem h]; rfl
theorem getD_ge (l : List Int) (i : Nat) (h : l.length ≤ i) : l.getD i 0 = 0 := by
  rw [List.getD_eq_getElem?_getD, List.getElem?_eq_none h]; rfl
def gapOf (a b V : List Int) : Int := prodI a V - prodI b (V.drop a.length)
/-- What may be taken: solutions. -/
def Sol (a b : List Int) (N : Nat) (u : List Int) : Prop := u.length = N ∧ Cnt u ∧ gapOf a b u = 0
theorem prodI_S (V : List Int) (hV : Cnt V) : ∀ (ks : List Int), Coe ks → prodI ks V = ((S (fun i => (ks.getD i 0).toNat) (fun i => (V.getD i 0).toNat) ks.length : Nat) : Int) := by
  intro ks hk
  have step : ∀ (ks V : List Int) (j : Nat), j < ks.length → prodI (ks.take (j + 1)) V = prodI (ks.take j) V + ks.getD j 0 * V.getD j 0 := by
    intro ks
    induction ks with
    | nil => intro V j h; exact absurd h (Nat.not_lt_zero j)
    | cons k ks ih =>
      intro V j h
      cases V with
      | nil =>
        have e : ∀ l : List Int, prodI l [] = 0 := fun l => by cases l <;> rfl
        rw [e, e]
        simp
      | cons v V =>
        cases j with
        | zero =>
          show k * v + prodI [] V = 0 + k * v
          rw [prodI_nil]; omega
        | succ j =>
          show k * v + prodI (ks.take (j + 1)) V = k * v + prodI (ks.take j) V + ks.getD j 0 * V.getD j 0
          rw [ih V j (by simpa using h)]
          omega
  have all : ∀ j, j ≤ ks.length → prodI (ks.take j) V = ((S (fun i => (ks.getD i 0).toNat) (fun i => (V.getD i 0).toNat) j : Nat) : Int) := by
    intro j
    induction j with
    | zero => intro _; rw [List.take_zero, prodI_nil]; rfl
    | succ j ih =>
      intro hj
      rw [step ks V j (by omega), ih (by omega), S, Int.natCast_add, Int.natCast_mul]
      have h1 : 0 ≤ ks.getD j 0 := by rw [getD_lt ks j (by omega)]; have := (hk.get j (by omega)).1; omega
      have h2 : 0 ≤ V.getD j 0 := by
        by_cases hj2 : j < V.length
        · rw [getD_lt V j hj2]; exact (hV.get j hj2).1
        · rw [getD_ge V j (by omega)]; exact Int.le_refl _
      rw [Int.toNat_of_nonneg h1, Int.toNat_of_nonneg h2]
  have := all ks.length (Nat.le_refl _)
  rwa [List.take_length] at this
theorem told_get1 (p : Pb) (x y : Nat → Nat) (i : Nat) (hi : i < p.n) : (toI (tolds p x y)).getD i 0 = (x i : Int) := by
  unfold toI tolds
  rw [List.map_append, List.getD_eq_getElem?_getD, List.getElem?_append_left (by simpa using hi)]
  simp [hi]
theorem told_get2 (p : Pb) (x y : Nat → Nat) (i : Nat) (hi : i < p.q) : (toI (tolds p x y)).getD (p.n + i) 0 = (y i : Int) := by
  unfold toI tolds
  rw [List.map_append, List.getD_eq_getElem?_getD, List.getElem?_append_right (by simp)]
  simp [hi]
theorem drop_getD (V : List Int) (n j : Nat) : (V.drop n).getD j 0 = V.getD (n + j) 0 := by
  rw [List.getD_eq_getElem?_getD, List.getElem?_drop, List.getD_eq_getElem?_getD]
theorem S_ge (a x : Nat → Nat) : ∀ n i, i < n → a i * x i ≤ S a x n := by
  intro n
  induction n with
  | zero => intro i h; exact absurd h (Nat.not_lt_zero i)
  | succ n ih =>
    intro i h
    rw [S]
    by_cases hi : i = n
    · subst hi; omega
    · have := ih i (by omega); omega
theorem gap_S {a b V : List Int} (h0 : chkE a b = 0) (hV : Cnt V) : gapOf a b V = ((S (pbOf a b).a (fun i => (V.getD i 0).toNat) (pbOf a b).n : Nat) : Int) - ((S (pbOf a b).b (fun i => (V.getD (a.length + i) 0).toNat) (pbOf a b).q : Nat) : Int) := by
  obtain ⟨_, _, k1, k2⟩ := chk_zero h0
  unfold gapOf
  rw [prodI_S V hV a (coe_of k1), prodI_S (V.drop a.length) (fun x hx => hV x (List.mem_of_mem_drop hx)) b (coe_of k2)]
  have e : (fun i => ((V.drop a.length).getD i 0).toNat) = (fun i => (V.getD (a.length + i) 0).toNat) := funext (fun i => by rw [drop_getD])
  rw [e]
  rfl
theorem min_sol {a b : List Int} (h0 : chkE a b = 0) {x y : Nat → Nat} (m : Min (pbOf a b) x y) : Sol a b (a.length + b.length) (toI (tolds (pbOf a b) x y)) ∧ ∃ i, ∃ h : i < (toI (tolds (pbOf a b) x y)).length, (toI (tolds (pbOf a b) x y))[i] ≠ 0 := by
  have hl : (toI (tolds (pbOf a b) x y)).length = a.length + b.length := by rw [toI_len, tolds_len]; rfl
  have hb := (search_all (pb_ok h0) (by omega) (by omega)).2.2 x y m
  have hx : ∀ i, i < (pbOf a b).n → x i ≤ 6 := fun i hi => by have := S_ge (fun _ => 1) x _ i hi; have h1 := hb.1; unfold tot at h1; omega
  have hy : ∀ i, i < (pbOf a b).q → y i ≤ 6 := fun i hi => by have := S_ge (fun _ => 1) y _ i hi; have h1 := hb.2; unfold tot at h1; omega
  have hc : Cnt (toI (tolds (pbOf a b) x y)) := fun z hz => by
    unfold toI tolds at hz
    obtain ⟨k, hk, rfl⟩ := List.mem_map.1 hz
    rcases List.mem_append.1 hk with hk | hk
    · obtain ⟨i, hi, rfl⟩ := List.mem_map.1 hk
      have := hx i (List.mem_range.1 hi)
      omega
    · obtain ⟨i, hi, rfl⟩ := List.mem_map.1 hk
      have := hy i (List.mem_range.1 hi)
      omega
  have e1 : S (pbOf a b).a (fun i => ((toI (tolds (pbOf a b) x y)).getD i 0).toNat) (pbOf a b).n = S (pbOf a b).a x (pbOf a b).n := S_ext _ _ (fun i hi => by rw [told_get1 _ _ _ i hi]; omega)
  have e2 : S (pbOf a b).b (fun i => ((toI (tolds (pbOf a b) x y)).getD (a.length + i) 0).toNat) (pbOf a b).q = S (pbOf a b).b y (pbOf a b).q := S_ext _ _ (fun i hi => by
    have : (toI (tolds (pbOf a b) x y)).getD (a.length + i) 0 = (y i : Int) := told_get2 _ _ _ i hi
    rw [this]; omega)
  refine ⟨⟨hl, hc, by rw [gap_S h0 hc, e1, e2, m.eq]; omega⟩, ?_⟩
  rcases Classical.em (∃ i, ∃ h : i < (toI (tolds (pbOf a b) x y)).length, (toI (tolds (pbOf a b) x y))[i] ≠ 0) with h | h
  · exact h
  · exfalso
    have hz : ∀ i, i < (pbOf a b).n → x i = 0 := fun i hi => by
      rcases Nat.eq_zero_or_pos (x i) with h1 | h1
      · exact h1
      · have hi' : i < a.length := hi
        have h2 := told_get1 (pbOf a b) x y i hi
        rw [getD_lt _ i (by omega)] at h2
        exact absurd ⟨i, by omega, by rw [h2]; omega⟩ h
    have := m.pos
    rw [S_ext (pbOf a b).a (pbOf a b).n hz, S_zero] at this
    exact Nat.lt_irrefl 0 this
end Go.Proofs.Ytbdkogccjnmfoab
