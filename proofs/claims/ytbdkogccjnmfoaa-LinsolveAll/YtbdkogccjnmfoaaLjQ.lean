/- Plain: what all minimal solutions leave of a solution is nothing; a vector made into a solution. -/
import Derived.Test.YtbdkogccjnmfoaaLjP
namespace Go.Proofs.Ytbdkogccjnmfoaa
open Go.RowKit Go.Shelf

theorem getD_lt (l : List Int) (i : Nat) (h : i < l.length) : l.getD i 0 = l[i] := by
  rw [List.getD_eq_getElem?_getD, List.getElem?_eq_getElem h]; rfl
theorem getD_ge (l : List Int) (i : Nat) (h : l.length ≤ i) : l.getD i 0 = 0 := by
  rw [List.getD_eq_getElem?_getD, List.getElem?_eq_none h]; rfl
theorem prodI_set : ∀ (ks V : List Int) (i : Nat) (x : Int), i < V.length → prodI ks (V.set i x) = prodI ks V + ks.getD i 0 * (x - V.getD i 0) := by
  intro ks
  induction ks with
  | nil => intro V i x _; rw [prodI_nil, prodI_nil]; simp
  | cons k ks ih =>
    intro V i x hi
    cases V with
    | nil => exact absurd hi (Nat.not_lt_zero _)
    | cons v V =>
      cases i with
      | zero =>
        show k * x + prodI ks V = k * v + prodI ks V + k * (x - v)
        rw [Int.mul_sub]
        omega
      | succ i =>
        show k * v + prodI ks (V.set i x) = k * v + prodI ks V + ks.getD i 0 * (x - V.getD i 0)
        rw [ih V i x (by simpa using hi)]
        omega
def gapOf (a b V : List Int) : Int := prodI a V - prodI b (V.drop a.length)
theorem gap_set (a b V : List Int) (i : Nat) (x : Int) (hi : i < V.length) : gapOf a b (V.set i x) = gapOf a b V + (if i < a.length then a.getD i 0 else - b.getD (i - a.length) 0) * (x - V.getD i 0) := by
  unfold gapOf
  rw [prodI_set a V i x hi]
  by_cases h : i < a.length
  · rw [if_pos h, List.drop_set_of_lt h]
    omega
  · have e1 : (V.set i x).drop a.length = (V.drop a.length).set (i - a.length) x := by
      rw [List.drop_set, if_neg h]
    have e2 : (V.drop a.length).getD (i - a.length) 0 = V.getD i 0 := by
      rw [List.getD_eq_getElem?_getD, List.getElem?_drop, List.getD_eq_getElem?_getD, Nat.add_sub_cancel' (by omega)]
    rw [if_neg h, e1, prodI_set b _ _ x (by rw [List.length_drop]; omega), e2, getD_ge a i (by omega), Int.neg_mul]
    omega
theorem prodI_scale (B : Int) : ∀ (ks V : List Int), prodI ks (V.map (fun x => x * B)) = B * prodI ks V := by
  intro ks
  induction ks with
  | nil => intro V; rw [prodI_nil, prodI_nil, Int.mul_zero]
  | cons k ks ih =>
    intro V
    cases V with
    | nil => show (0 : Int) = B * 0; rw [Int.mul_zero]
    | cons v V =>
      show k * (v * B) + prodI ks (V.map _) = B * (k * v + prodI ks V)
      rw [ih, Int.mul_add, ← Int.mul_assoc, Int.mul_comm (k * v) B]
theorem gap_scale (a b V : List Int) (B : Int) : gapOf a b (V.map (fun x => x * B)) = B * gapOf a b V := by
  unfold gapOf
  rw [prodI_scale, ← List.map_drop, prodI_scale, Int.mul_sub]
theorem prodI_bound (M : Int) : ∀ (ks V : List Int), Coe ks → (∀ x ∈ V, 0 ≤ x ∧ x ≤ M) → 0 ≤ M → 0 ≤ prodI ks V ∧ prodI ks V ≤ ks.length * (6 * M) := by
  intro ks
  induction ks with
  | nil => intro V _ _ hM; rw [prodI_nil]; simp
  | cons k ks ih =>
    intro V hk hV hM
    cases V with
    | nil =>
      refine ⟨Int.le_refl _, ?_⟩
      show (0 : Int) ≤ _
      exact Int.mul_nonneg (by omega) (by omega)
    | cons v V =>
      have h1 := hk k List.mem_cons_self
      have h2 := hV v List.mem_cons_self
      have h3 := ih V (fun x hx => hk x (List.mem_cons_of_mem _ hx)) (fun x hx => hV x (List.mem_cons_of_mem _ hx)) hM
      have h4 : 0 ≤ k * v := Int.mul_nonneg (by omega) h2.1
      have h5 : k * v ≤ 6 * M := Int.mul_le_mul h1.2 h2.2 h2.1 (by decide)
      have e : ((k :: ks).length : Int) * (6 * M) = (ks.length : Int) * (6 * M) + 6 * M := by
        rw [List.length_cons, Int.natCast_add, Int.add_mul]; simp
      show 0 ≤ k * v + prodI ks V ∧ k * v + prodI ks V ≤ _
      rw [e]
      omega
theorem gap_bound {a b V : List Int} (ha : Coe a) (hb : Coe b) (la : a.length ≤ 5) (lb : b.length ≤ 5) (hV : ∀ x ∈ V, 0 ≤ x ∧ x ≤ 49) : -1470 ≤ gapOf a b V ∧ gapOf a b V ≤ 1470 := by
  have h1 := prodI_bound 49 a V ha hV (by decide)
  have h2 := prodI_bound 49 b (V.drop a.length) hb (fun x hx => hV x (List.mem_of_mem_drop hx)) (by decide)
  unfold gapOf
  omega
theorem prodI_takeN (k : Int) : ∀ (ks w left : List Int), w.length = left.length → prodI ks (takeN k w left) = prodI ks left - k * prodI ks w := by
  intro ks
  induction ks with
  | nil => intro w left _; rw [prodI_nil, prodI_nil, prodI_nil]; simp
  | cons c ks ih =>
    intro w left hl
    cases w with
    | nil => cases left with
      | nil => show (0 : Int) = 0 - k * 0; simp
      | cons _ _ => cases hl
    | cons x w => cases left with
      | nil => cases hl
      | cons l left =>
        show c * (l - k * x) + prodI ks (takeN k w left) = c * l + prodI ks left - k * (c * x + prodI ks w)
        rw [ih w left (by simpa using hl), Int.mul_sub, Int.mul_add, ← Int.mul_assoc c k x, ← Int.mul_assoc k c x, Int.mul_comm c k]
        omega
theorem takeN_drop (k : Int) (w left : List Int) (n : Nat) : (takeN k w left).drop n = takeN k (w.drop n) (left.drop n) := by
  unfold takeN
  rw [List.drop_zipWith]
theorem gap_take (a b : List Int) (k : Int) (w left : List Int) (hl : w.length = left.length) : gapOf a b (takeN k w left) = gapOf a b left - k * gapOf a b w := by
  unfold gapOf
  rw [prodI_takeN k a w left hl, takeN_drop, prodI_takeN k b _ _ (by rw [List.length_drop, List.length_drop, hl]), Int.mul_sub]
  omega
/-- What may be taken: solutions. -/
def Sol (a b : List Int) (N : Nat) (u : List Int) : Prop := u.length = N ∧ Cnt u ∧ gapOf a b u = 0
theorem expr_gap (a b : List Int) (N : Nat) : ∀ (ls : List (List Int)) (v : List Int), v.length = N → Cnt v → (∀ u ∈ ls, Sol a b N u) → gapOf a b (exprA ls v).2 = gapOf a b v := by
  intro ls
  induction ls with
  | nil => intro v _ _ _; rfl
  | cons w ws ih =>
    intro v hl hv hs
    obtain ⟨h1, h2, h3⟩ := hs w List.mem_cons_self
    show gapOf a b (exprA ws (takeN (fitN w v) w v)).2 = _
    rw [ih _ (by rw [take_len _ _ _ (by omega)]; exact hl) (take_cnt h2 hv (by omega)) (fun u hu => hs u (List.mem_cons_of_mem _ hu)), gap_take a b _ w v (by omega), h3]
    simp
theorem expr_le (N : Nat) : ∀ (ls : List (List Int)) (v : List Int), v.length = N → Cnt v → (∀ u ∈ ls, u.length = N ∧ Cnt u) → ∀ i, (exprA ls v).2.getD i 0 ≤ v.getD i 0 := by
  intro ls
  induction ls with
  | nil => intro v _ _ _ i; exact Int.le_refl _
  | cons w ws ih =>
    intro v hl hv hs i
    obtain ⟨h1, h2⟩ := hs w List.mem_cons_self
    have hl2 := take_len (fitN w v) w v (by omega)
    have h3 := ih (takeN (fitN w v) w v) (by rw [hl2]; exact hl) (take_cnt h2 hv (by omega)) (fun u hu => hs u (List.mem_cons_of_mem _ hu)) i
    show (exprA ws (takeN (fitN w v) w v)).2.getD i 0 ≤ _
    refine Int.le_trans h3 ?_
    by_cases hi : i < v.length
    · rw [getD_lt _ i (by omega), getD_lt _ i hi, take_get _ _ _ i (by omega) hi]
      have := Int.mul_nonneg (fit_ok h2 hv).1 (h2.get i (by omega)).1
      omega
    · rw [getD_ge _ i (by omega), getD_ge _ i (by omega)]
      exact Int.le_refl _
theorem fitL_from : ∀ (w left : List Int) (acc : Option Int) (k : Int), fitL acc w left = some k → acc = some k ∨ ∃ i, ∃ (h1 : i < w.length) (h2 : i < left.length), w[i] ≠ 0 ∧ k = left[i] / w[i] := by
  intro w
  induction w with
  | nil => intro left acc k h; left; cases left <;> exact h
  | cons n ns ih =>
    intro left acc k h
    cases left with
    | nil => exact .inl h
    | cons l ls =>
      rw [fitL] at h
      rcases ih ls _ k h with h1 | ⟨i, h1, h2, h3⟩
      · by_cases h0 : n = 0
        · rw [show fitS acc n l = acc by unfold fitS; rw [if_pos h0]] at h1
          exact .inl h1
        · have key : fitS acc n l = some (l / n) ∨ fitS acc n l = acc := by
            unfold fitS
            rw [if_neg h0]
            cases acc with
            | none => exact .inl rfl
            | some m =>
              dsimp only
              split
              · exact .inl rfl
              · exact .inr rfl
          rcases key with h2 | h2
          · rw [h1] at h2
            injection h2 with h2
            exact .inr ⟨0, by simp, by simp, h0, h2⟩
          · rw [h1] at h2
            exact .inl h2.symm
      · exact .inr ⟨i + 1, by simpa using h1, by simpa using h2, h3⟩
theorem fitL_isSome : ∀ (w left : List Int) (i : Nat) (h1 : i < w.length), i < left.length → w[i] ≠ 0 → ∃ k, fitL none w left = some k := by
  intro w
  induction w with
  | nil => intro left i h1; exact absurd h1 (Nat.not_lt_zero i)
  | cons n ns ih =>
    intro left i h1 h2 h3
    cases left with
    | nil => exact absurd h2 (Nat.not_lt_zero i)
    | cons l ls =>
      by_cases h0 : n = 0
      · cases i with
        | zero => exact absurd h0 h3
        | succ i =>
          rw [fitL, show fitS none n l = none by unfold fitS; rw [if_pos h0]]
          exact ih ls i (by simpa using h1) (by simpa using h2) h3
      · rw [fitL, show fitS none n l = some (l / n) by unfold fitS; rw [if_neg h0]]
        obtain ⟨k, h, _⟩ := fitL_some (l / n) ns ls
        exact ⟨k, h⟩
/-- It fits once more at no place. -/
theorem fit_max {w left : List Int} (hw : Cnt w) (hlen : w.length = left.length) (i : Nat) (h1 : i < w.length) (h2 : w[i] ≠ 0) : ∃ j, ∃ (h3 : j < w.length) (h4 : j < left.length), left[j] - fitN w left * w[j] < w[j] := by
  obtain ⟨k, hk⟩ := fitL_isSome w left i h1 (by omega) h2
  rcases fitL_from w left none k hk with h | ⟨j, h3, h4, h5, h6⟩
  · cases h
  · refine ⟨j, h3, h4, ?_⟩
    have e : fitN w left = k := by unfold fitN; rw [hk]; rfl
    have hp : 0 < w[j] := by have := (hw.get j h3).1; omega
    rw [e, h6]
    have := Int.emod_lt_of_pos left[j] hp
    rw [Int.emod_def, Int.mul_comm w[j] (left[j] / w[j])] at this
    exact this
theorem expr_unfit (N : Nat) : ∀ (ls : List (List Int)) (v : List Int), v.length = N → Cnt v → (∀ u ∈ ls, u.length = N ∧ Cnt u) → ∀ u ∈ ls, (∃ i, ∃ h : i < u.length, u[i] ≠ 0) → ∃ j, j < N ∧ (exprA ls v).2.getD j 0 < u.getD j 0 := by
  intro ls
  induction ls with
  | nil => intro v _ _ _ u hu; cases hu
  | cons w ws ih =>
    intro v hl hv hs u hu hne
    obtain ⟨h1, h2⟩ := hs w List.mem_cons_self
    have hl2 := take_len (fitN w v) w v (by omega)
    have hc2 := take_cnt h2 hv (by omega)
    have hs2 : ∀ u ∈ ws, u.length = N ∧ Cnt u := fun u hu => hs u (List.mem_cons_of_mem _ hu)
    show ∃ j, j < N ∧ (exprA ws (takeN (fitN w v) w v)).2.getD j 0 < u.getD j 0
    rcases List.mem_cons.1 hu with rfl | hu
    · obtain ⟨i, hi, hne⟩ := hne
      obtain ⟨j, h3, h4, h5⟩ := fit_max (left := v) h2 (by omega) i hi hne
      refine ⟨j, by omega, ?_⟩
      have h6 := expr_le N ws (takeN (fitN u v) u v) (by omega) hc2 hs2 j
      rw [getD_lt (takeN (fitN u v) u v) j (by omega), take_get _ _ _ j h3 h4] at h6
      rw [getD_lt u j h3]
      omega
    · exact ih _ (by omega) hc2 hs2 u hu hne
theorem prodI_S (V : List Int) (hV : Cnt V) : ∀ (ks : List Int), Coe ks → prodI ks V = ((S (fun i => (ks.getD i 0).toNat) (fun i => (V.getD i 0).toNat) ks.length : Nat) : Int) := by
  intro ks hk
  have step : ∀ (ks V : List Int) (j : Nat), j < ks.length → prodI (ks.take (j + 1)) V = prodI (ks.take j) V + ks.getD j 0 * V.getD j 0 := by
    intro ks
    induction ks with
    | nil => intro V j h; exact absurd h (Nat.not_lt_zero j)
    | cons k ks ih =>
      intro V j h
      cases V with
      | nil =>
        have e : ∀ l : List Int, prodI l [] = 0 := fun l => by cases l <;> rfl
        rw [e, e]
        simp
      | cons v V =>
        cases j with
        | zero =>
          show k * v + prodI [] V = 0 + k * v
          rw [prodI_nil]; omega
        | succ j =>
          show k * v + prodI (ks.take (j + 1)) V = k * v + prodI (ks.take j) V + ks.getD j 0 * V.getD j 0
          rw [ih V j (by simpa using h)]
          omega
  have all : ∀ j, j ≤ ks.length → prodI (ks.take j) V = ((S (fun i => (ks.getD i 0).toNat) (fun i => (V.getD i 0).toNat) j : Nat) : Int) := by
    intro j
    induction j with
    | zero => intro _; rw [List.take_zero, prodI_nil]; rfl
    | succ j ih =>
      intro hj
      rw [step ks V j (by omega), ih (by omega), S, Int.natCast_add, Int.natCast_mul]
      have h1 : 0 ≤ ks.getD j 0 := by rw [getD_lt ks j (by omega)]; have := (hk.get j (by omega)).1; omega
      have h2 : 0 ≤ V.getD j 0 := by
        by_cases hj2 : j < V.length
        · rw [getD_lt V j hj2]; exact (hV.get j hj2).1
        · rw [getD_ge V j (by omega)]; exact Int.le_refl _
      rw [Int.toNat_of_nonneg h1, Int.toNat_of_nonneg h2]
  have := all ks.length (Nat.le_refl _)
  rwa [List.take_length] at this
theorem told_get1 (p : Pb) (x y : Nat → Nat) (i : Nat) (hi : i < p.n) : (toI (tolds p x y)).getD i 0 = (x i : Int) := by
  unfold toI tolds
  rw [List.map_append, List.getD_eq_getElem?_getD, List.getElem?_append_left (by simpa using hi)]
  simp [hi]
theorem told_get2 (p : Pb) (x y : Nat → Nat) (i : Nat) (hi : i < p.q) : (toI (tolds p x y)).getD (p.n + i) 0 = (y i : Int) := by
  unfold toI tolds
  rw [List.map_append, List.getD_eq_getElem?_getD, List.getElem?_append_right (by simp)]
  simp [hi]
theorem drop_getD (V : List Int) (n j : Nat) : (V.drop n).getD j 0 = V.getD (n + j) 0 := by
  rw [List.getD_eq_getElem?_getD, List.getElem?_drop, List.getD_eq_getElem?_getD]
theorem S_ge (a x : Nat → Nat) : ∀ n i, i < n → a i * x i ≤ S a x n := by
  intro n
  induction n with
  | zero => intro i h; exact absurd h (Nat.not_lt_zero i)
  | succ n ih =>
    intro i h
    rw [S]
    by_cases hi : i = n
    · subst hi; omega
    · have := ih i (by omega); omega
theorem gap_S {a b V : List Int} (h0 : chkE a b = 0) (hV : Cnt V) : gapOf a b V = ((S (pbOf a b).a (fun i => (V.getD i 0).toNat) (pbOf a b).n : Nat) : Int) - ((S (pbOf a b).b (fun i => (V.getD (a.length + i) 0).toNat) (pbOf a b).q : Nat) : Int) := by
  obtain ⟨_, _, k1, k2⟩ := chk_zero h0
  unfold gapOf
  rw [prodI_S V hV a (coe_of k1), prodI_S (V.drop a.length) (fun x hx => hV x (List.mem_of_mem_drop hx)) b (coe_of k2)]
  have e : (fun i => ((V.drop a.length).getD i 0).toNat) = (fun i => (V.getD (a.length + i) 0).toNat) := funext (fun i => by rw [drop_getD])
  rw [e]
  rfl
theorem min_sol {a b : List Int} (h0 : chkE a b = 0) {x y : Nat → Nat} (m : Min (pbOf a b) x y) : Sol a b (a.length + b.length) (toI (tolds (pbOf a b) x y)) ∧ ∃ i, ∃ h : i < (toI (tolds (pbOf a b) x y)).length, (toI (tolds (pbOf a b) x y))[i] ≠ 0 := by
  have hl : (toI (tolds (pbOf a b) x y)).length = a.length + b.length := by rw [toI_len, tolds_len]; rfl
  have hb := (search_all (pb_ok h0) (by omega) (by omega)).2.2 x y m
  have hx : ∀ i, i < (pbOf a b).n → x i ≤ 6 := fun i hi => by have := S_ge (fun _ => 1) x _ i hi; have h1 := hb.1; unfold tot at h1; omega
  have hy : ∀ i, i < (pbOf a b).q → y i ≤ 6 := fun i hi => by have := S_ge (fun _ => 1) y _ i hi; have h1 := hb.2; unfold tot at h1; omega
  have hc : Cnt (toI (tolds (pbOf a b) x y)) := fun z hz => by
    unfold toI tolds at hz
    obtain ⟨k, hk, rfl⟩ := List.mem_map.1 hz
    rcases List.mem_append.1 hk with hk | hk
    · obtain ⟨i, hi, rfl⟩ := List.mem_map.1 hk
      have := hx i (List.mem_range.1 hi)
      omega
    · obtain ⟨i, hi, rfl⟩ := List.mem_map.1 hk
      have := hy i (List.mem_range.1 hi)
      omega
  have e1 : S (pbOf a b).a (fun i => ((toI (tolds (pbOf a b) x y)).getD i 0).toNat) (pbOf a b).n = S (pbOf a b).a x (pbOf a b).n := S_ext _ _ (fun i hi => by rw [told_get1 _ _ _ i hi]; omega)
  have e2 : S (pbOf a b).b (fun i => ((toI (tolds (pbOf a b) x y)).getD (a.length + i) 0).toNat) (pbOf a b).q = S (pbOf a b).b y (pbOf a b).q := S_ext _ _ (fun i hi => by
    have : (toI (tolds (pbOf a b) x y)).getD (a.length + i) 0 = (y i : Int) := told_get2 _ _ _ i hi
    rw [this]; omega)
  refine ⟨⟨hl, hc, by rw [gap_S h0 hc, e1, e2, m.eq]; omega⟩, ?_⟩
  rcases Classical.em (∃ i, ∃ h : i < (toI (tolds (pbOf a b) x y)).length, (toI (tolds (pbOf a b) x y))[i] ≠ 0) with h | h
  · exact h
  · exfalso
    have hz : ∀ i, i < (pbOf a b).n → x i = 0 := fun i hi => by
      rcases Nat.eq_zero_or_pos (x i) with h1 | h1
      · exact h1
      · have hi' : i < a.length := hi
        have h2 := told_get1 (pbOf a b) x y i hi
        rw [getD_lt _ i (by omega)] at h2
        exact absurd ⟨i, by omega, by rw [h2]; omega⟩ h
    have := m.pos
    rw [S_ext (pbOf a b).a (pbOf a b).n hz, S_zero] at this
    exact Nat.lt_irrefl 0 this
/-- All minimal solutions leave nothing of a solution. -/
theorem greedy {a b : List Int} (h0 : chkE a b = 0) {L : List (List Nat)} (h : IsMin (pbOf a b) L) (v : List Int) (hv : Sol a b (a.length + b.length) v) : ∀ x ∈ (exprA (L.map toI) v).2, x = 0 := by
  obtain ⟨v1, v2, v3⟩ := hv
  have hls : ∀ u ∈ L.map toI, Sol a b (a.length + b.length) u := fun u hu => by
    obtain ⟨w, hw, rfl⟩ := List.mem_map.1 hu
    obtain ⟨x, y, rfl, m⟩ := (h.mem h0 w).1 hw
    exact (min_sol h0 m).1
  obtain ⟨q1, q2, _⟩ := expr_ok (L.map toI) v v2 (fun u hu => ⟨(hls u hu).1.trans v1.symm, (hls u hu).2.1⟩)
  have hg := expr_gap a b _ (L.map toI) v v1 v2 hls
  have hun := expr_unfit _ (L.map toI) v v1 v2 (fun u hu => ⟨(hls u hu).1, (hls u hu).2.1⟩)
  rw [v3] at hg
  generalize (exprA (L.map toI) v).2 = R at q1 q2 hg hun ⊢
  rw [gap_S h0 q1] at hg
  have sx : S (pbOf a b).a (fun i => if i < (pbOf a b).n then (R.getD i 0).toNat else 0) (pbOf a b).n = S (pbOf a b).a (fun i => (R.getD i 0).toNat) (pbOf a b).n := S_ext _ _ (fun i hi => if_pos hi)
  have sy : S (pbOf a b).b (fun i => if i < (pbOf a b).q then (R.getD (a.length + i) 0).toNat else 0) (pbOf a b).q = S (pbOf a b).b (fun i => (R.getD (a.length + i) 0).toNat) (pbOf a b).q := S_ext _ _ (fun i hi => if_pos hi)
  rcases Nat.eq_zero_or_pos (S (pbOf a b).a (fun i => (R.getD i 0).toNat) (pbOf a b).n) with hz | hz
  · have ok := pb_ok h0
    have z1 : ∀ i, i < (pbOf a b).n → (R.getD i 0).toNat = 0 := fun i hi => by
      have h1 := S_ge (pbOf a b).a (fun i => (R.getD i 0).toNat) _ i hi
      have h2 := (ok.a1 i hi).1
      rw [hz] at h1
      rcases Nat.mul_eq_zero.1 (Nat.le_zero.1 h1) with h3 | h3
      · omega
      · exact h3
    have z2 : ∀ i, i < (pbOf a b).q → (R.getD (a.length + i) 0).toNat = 0 := fun i hi => by
      have h1 := S_ge (pbOf a b).b (fun i => (R.getD (a.length + i) 0).toNat) _ i hi
      have h2 := (ok.b1 i hi).1
      have h4 : S (pbOf a b).b (fun i => (R.getD (a.length + i) 0).toNat) (pbOf a b).q = 0 := by omega
      rw [h4] at h1
      rcases Nat.mul_eq_zero.1 (Nat.le_zero.1 h1) with h3 | h3
      · omega
      · exact h3
    intro x hx
    obtain ⟨i, hi, rfl⟩ := List.getElem_of_mem hx
    have hc := q1.get i hi
    by_cases hia : i < a.length
    · have := z1 i hia
      rw [getD_lt R i hi] at this
      omega
    · have h5 : i - a.length < (pbOf a b).q := by show i - a.length < b.length; omega
      have := z2 (i - a.length) h5
      rw [Nat.add_sub_cancel' (by omega), getD_lt R i hi] at this
      omega
  · exfalso
    obtain ⟨u, w, m, hu, hw⟩ := exists_min (pbOf a b) _ _ _ sx (fun i hi => if_neg (Nat.not_lt.2 hi)) (fun i hi => if_neg (Nat.not_lt.2 hi)) (by rw [sx, sy]; omega) hz
    obtain ⟨hs, hne⟩ := min_sol h0 m
    obtain ⟨j, hj, hlt⟩ := hun _ (List.mem_map.2 ⟨_, (h.mem h0 _).2 ⟨u, w, rfl, m⟩, rfl⟩) hne
    by_cases hja : j < a.length
    · rw [told_get1 _ _ _ j hja] at hlt
      have h6 := hu j
      rw [if_pos (show j < (pbOf a b).n from hja)] at h6
      have h7 : 0 ≤ R.getD j 0 := by rw [getD_lt R j (by omega)]; exact (q1.get j (by omega)).1
      omega
    · have h5 : j - a.length < (pbOf a b).q := by show j - a.length < b.length; omega
      have h8 : (toI (tolds (pbOf a b) u w)).getD (a.length + (j - a.length)) 0 = (w (j - a.length) : Int) := told_get2 _ _ _ _ h5
      rw [Nat.add_sub_cancel' (by omega)] at h8
      rw [h8] at hlt
      have h6 := hw (j - a.length)
      rw [if_pos h5, Nat.add_sub_cancel' (by omega)] at h6
      have h7 : 0 ≤ R.getD j 0 := by rw [getD_lt R j (by omega)]; exact (q1.get j (by omega)).1
      omega
/-- How a vector is made into a solution. -/
structure Fill (a b V : List Int) (G : Int) (p : Nat) (B : Int) : Prop where
  G0 : 0 ≤ G ∧ G ≤ 1470
  B1 : 1 ≤ B ∧ B ≤ 6
  pl : 0 < a.length + b.length → p < a.length + b.length
  no : a.length + b.length = 0 → G = 0
  by' : G = 0 ∧ gapOf a b V = 0 ∨ ∃ s : Int, gapOf a b V = s * G ∧ s * B = - (if p < a.length then a.getD p 0 else - b.getD (p - a.length) 0) * 1
theorem Fill.done {a b V : List Int} {G : Int} {p : Nat} {B : Int} (f : Fill a b V G p B) (V' : List Int) (t z : Int) (hl : V'.length = a.length + b.length) (hp : 0 < a.length + b.length) (hg : gapOf a b V' = t * gapOf a b V) (hz : B * z = t * G) : gapOf a b (V'.set p (V'.getD p 0 + z)) = 0 := by
  rw [gap_set a b V' p _ (by rw [hl]; exact f.pl hp), hg]
  have hB := f.B1
  rcases f.by' with ⟨h1, h2⟩ | ⟨s, h1, h2⟩
  · have hz0 : z = 0 := by
      rw [h1, Int.mul_zero] at hz
      rcases Int.mul_eq_zero.1 hz with h | h
      · omega
      · exact h
    rw [h2, hz0]
    simp
  · generalize (if p < a.length then a.getD p 0 else - b.getD (p - a.length) 0) = c at h2 ⊢
    have hc : c = - (s * B) := by omega
    have e : V'.getD p 0 + z - V'.getD p 0 = z := by omega
    rw [hc, e, h1, Int.neg_mul, Int.mul_assoc, hz, ← Int.mul_assoc, ← Int.mul_assoc, Int.mul_comm t s]
    omega
end Go.Proofs.Ytbdkogccjnmfoaa
