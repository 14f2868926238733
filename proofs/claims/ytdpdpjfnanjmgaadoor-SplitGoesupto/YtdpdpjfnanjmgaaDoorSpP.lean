/- Splits, plainly: the ways number by number, as the program goes through them; what stands in them; that they rise. -/
namespace Go.Proofs.YtdpdpjfnanjmgaaDoor

/-- What numbers from a place on take of a kind. -/
def sumOf (K : Nat) (k : List Nat) (j : Nat) : Nat → List Nat → Nat
  | _, [] => 0
  | p, n :: v => (if p % K = j then n * k.getD (p / K) 0 else 0) + sumOf K k j (p + 1) v
/-- Who has something by them. -/
def hasOf (K : Nat) : Nat → List Nat → Nat
  | _, [] => 0
  | p, n :: v => (if 0 < n then 2 ^ (p / K) else 0) ||| hasOf K (p + 1) v
/-- The ways behind a deal: so many numbers are left to be chosen, from a place on. -/
def LL (K : Nat) (k : List Nat) (full : Nat) : Nat → Nat → List Nat → Nat → List (List Nat)
  | 0, _, left, has => if left.all (· == 0) && has == full then [[]] else []
  | r + 1, p, left, has => (List.range (left.getD (p % K) 0 / k.getD (p / K) 0 + 1)).flatMap fun n => (LL K k full r (p + 1) (left.set (p % K) (left.getD (p % K) 0 - n * k.getD (p / K) 0)) (if 0 < n then has ||| 2 ^ (p / K) else has)).map (n :: ·)

theorem getD_set {l : List Nat} {i j v : Nat} (h : i < l.length) : (l.set i v).getD j 0 = if i = j then v else l.getD j 0 := by
  simp only [List.getD_eq_getElem?_getD, List.getElem?_set]
  by_cases e : i = j
  · subst e; simp [h]
  · simp [e]
theorem all0 {l : List Nat} : l.all (· == 0) = true ↔ ∀ j < l.length, l.getD j 0 = 0 := by
  rw [List.all_eq_true]
  constructor
  · intro h j hj
    have := h (l[j]) (List.getElem_mem hj)
    rw [List.getD_eq_getElem?_getD, List.getElem?_eq_getElem hj]
    simpa using this
  · intro h x hx
    obtain ⟨j, hj, rfl⟩ := List.getElem_of_mem hx
    have := h j hj
    rw [List.getD_eq_getElem?_getD, List.getElem?_eq_getElem hj] at this
    simpa using this
theorem LL_mem {K : Nat} {k : List Nat} {full : Nat} (hk : ∀ i < k.length, 1 ≤ k.getD i 0) : ∀ (r p : Nat) (left : List Nat) (has : Nat), p + r = K * k.length → left.length = K →
    ∀ v, v ∈ LL K k full r p left has ↔ v.length = r ∧ (∀ j < K, sumOf K k j p v = left.getD j 0) ∧ has ||| hasOf K p v = full
  | 0, p, left, has, hp, hl, v => by
    unfold LL
    split
    · rename_i h
      rw [Bool.and_eq_true] at h
      have h1 := all0.1 h.1
      have h2 : has = full := by simpa using h.2
      constructor
      · intro hv
        rw [List.mem_singleton] at hv
        subst hv
        refine ⟨rfl, fun j hj => ?_, ?_⟩
        · rw [h1 j (by omega)]; rfl
        · simpa [hasOf] using h2
      · rintro ⟨hv, -⟩
        rw [List.mem_singleton]
        exact List.length_eq_zero_iff.1 hv
    · rename_i h
      constructor
      · intro hv; cases hv
      · rintro ⟨hv, h1, h2⟩
        have := List.length_eq_zero_iff.1 hv
        subst this
        exfalso
        apply h
        rw [Bool.and_eq_true]
        refine ⟨all0.2 fun j hj => ?_, by simpa [hasOf] using h2⟩
        rw [← h1 j (by omega)]; rfl
  | r + 1, p, left, has, hp, hl, v => by
    have hpK : p < K * k.length := by omega
    have hK : 0 < K := by
      rcases Nat.eq_zero_or_pos K with h | h
      · subst h; simp at hpK
      · exact h
    have ht : p / K < k.length := (Nat.div_lt_iff_lt_mul hK).2 (by rw [Nat.mul_comm]; exact hpK)
    have hj := Nat.mod_lt p hK
    have h1 := hk _ ht
    obtain ⟨c, hc⟩ : ∃ c, k.getD (p / K) 0 = c := ⟨_, rfl⟩
    obtain ⟨z, hz⟩ : ∃ z, left.getD (p % K) 0 = z := ⟨_, rfl⟩
    unfold LL
    rw [hc] at h1 ⊢
    rw [hz]
    rw [List.mem_flatMap]
    constructor
    · rintro ⟨n, hn, hv⟩
      rw [List.mem_range] at hn
      obtain ⟨v', hv', rfl⟩ := List.mem_map.1 hv
      have hnz : n * c ≤ z := (Nat.le_div_iff_mul_le (by omega)).1 (by omega)
      obtain ⟨g1, g2, g3⟩ := (LL_mem hk r (p + 1) _ _ (by omega) (by rw [List.length_set]; exact hl) v').1 hv'
      refine ⟨by simp [g1], fun j hjK => ?_, ?_⟩
      · have := g2 j hjK
        rw [getD_set (by omega)] at this
        unfold sumOf
        rw [hc]
        by_cases e : p % K = j
        · rw [if_pos e] at this ⊢
          rw [this, ← e, hz]; omega
        · rw [if_neg e] at this ⊢
          rw [this]; omega
      · unfold hasOf
        rw [← g3]
        split
        · rw [Nat.or_assoc]
        · rw [Nat.zero_or]
    · rintro ⟨g1, g2, g3⟩
      cases v with
      | nil => simp at g1
      | cons n v' =>
        have hs := g2 (p % K) hj
        unfold sumOf at hs
        rw [if_pos rfl, hc, hz] at hs
        have hnz : n * c ≤ z := by omega
        refine ⟨n, List.mem_range.2 (by have := (Nat.le_div_iff_mul_le (show 0 < c by omega)).2 hnz; omega), List.mem_map.2 ⟨v', (LL_mem hk r (p + 1) _ _ (by omega) (by rw [List.length_set]; exact hl) v').2 ⟨by simpa using g1, fun j hjK => ?_, ?_⟩, rfl⟩⟩
        · rw [getD_set (by omega)]
          have h2 := g2 j hjK
          unfold sumOf at h2
          rw [hc] at h2
          by_cases e : p % K = j
          · rw [if_pos e] at h2 ⊢
            rw [← e, hz] at h2
            rw [← e]; omega
          · rw [if_neg e] at h2 ⊢
            omega
        · unfold hasOf at g3
          rw [← g3]
          split
          · rw [Nat.or_assoc]
          · rw [Nat.zero_or]

theorem pair_flat {α : Type} {R : α → α → Prop} {f : Nat → List α} : ∀ n : Nat, (∀ i < n, (f i).Pairwise R) → (∀ i j, i < j → j < n → ∀ x ∈ f i, ∀ y ∈ f j, R x y) → ((List.range n).flatMap f).Pairwise R
  | 0, _, _ => by simp
  | n + 1, h, g => by
    rw [List.range_succ, List.flatMap_append, List.pairwise_append]
    refine ⟨pair_flat n (fun i hi => h i (by omega)) (fun i j h1 h2 => g i j h1 (by omega)), by simpa using h n (by omega), ?_⟩
    intro x hx y hy
    obtain ⟨i, hi, hx⟩ := List.mem_flatMap.1 hx
    rw [List.mem_range] at hi
    simp at hy
    exact g i n hi (by omega) x hx y hy
theorem LL_rise {K : Nat} {k : List Nat} {full : Nat} : ∀ (r p : Nat) (left : List Nat) (has : Nat), (LL K k full r p left has).Pairwise (· < ·)
  | 0, _, _, _ => by unfold LL; split <;> simp
  | r + 1, p, left, has => by
    unfold LL
    refine pair_flat _ (fun i _ => ?_) (fun i j hij _ x hx y hy => ?_)
    · rw [List.pairwise_map]
      exact (LL_rise r _ _ _).imp fun {a b} h => List.cons_lt_cons_iff.2 (.inr ⟨rfl, h⟩)
    · obtain ⟨x', _, rfl⟩ := List.mem_map.1 hx
      obtain ⟨y', _, rfl⟩ := List.mem_map.1 hy
      exact List.cons_lt_cons_iff.2 (.inl hij)
theorem lt_irr (l : List Nat) : ¬ l < l := List.lt_irrefl l
/-- Two lists that rise and have the same members are one. -/
theorem rise_ext : ∀ {l m : List (List Nat)}, l.Pairwise (· < ·) → m.Pairwise (· < ·) → (∀ x, x ∈ l ↔ x ∈ m) → l = m
  | [], [], _, _, _ => rfl
  | [], y :: m, _, _, h => absurd ((h y).2 (by simp)) (by simp)
  | x :: l, [], _, _, h => absurd ((h x).1 (by simp)) (by simp)
  | x :: l, y :: m, h1, h2, h => by
    rw [List.pairwise_cons] at h1 h2
    have e : x = y := by
      rcases List.mem_cons.1 ((h x).1 (by simp)) with e | hx
      · exact e
      · rcases List.mem_cons.1 ((h y).2 (by simp)) with e | hy
        · exact e.symm
        · exact absurd (List.lt_trans (h1.1 y hy) (h2.1 x hx)) (lt_irr _)
    subst e
    rw [rise_ext h1.2 h2.2 (fun z => ?_)]
    have := h z
    simp only [List.mem_cons] at this
    constructor
    · intro hz
      rcases this.1 (.inr hz) with e | g
      · subst e; exact absurd (h1.1 z hz) (lt_irr _)
      · exact g
    · intro hz
      rcases this.2 (.inr hz) with e | g
      · subst e; exact absurd (h2.1 z hz) (lt_irr _)
      · exact g
theorem rise_nodup {l : List (List Nat)} (h : l.Pairwise (· < ·)) : l.Nodup := h.imp fun {a b} hab e => by subst e; exact lt_irr _ hab

/-- Everybody. -/
def allB (T : Nat) : Nat := 2 ^ T - 1
/-- All ways. -/
def waysF (m k : List Nat) (e : Bool) : List (List Nat) := LL m.length k (allB k.length) (m.length * k.length) 0 m (if e then allB k.length else 0)
end Go.Proofs.YtdpdpjfnanjmgaaDoor
