/- Splits, plainly: the document's ways, part by part, are the same, in the same order. -/
import Derived.Test.YtdpdpjfnanjmgaaDoorSpQ
namespace Go.Proofs.YtdpdpjfnanjmgaaDoor

/-- The parts that one taker may have. -/
def boxes (k0 : Nat) : List Nat → List (List Nat)
  | [] => [[]]
  | l :: ls => (List.range (l / k0 + 1)).flatMap fun n => (boxes k0 ls).map (n :: ·)
/-- What is left behind a part. -/
def subP (k0 : Nat) (left p : List Nat) : List Nat := List.zipWith (fun l n => l - k0 * n) left p
/-- The document's ways. -/
def WW (e : Bool) : List Nat → List Nat → List (List (List Nat))
  | [], left => if left.all (· == 0) then [[]] else []
  | k :: ks, left => ((boxes k left).filter fun p => e || !p.all (· == 0)).flatMap fun p => (WW e ks (subP k left p)).map (p :: ·)
def sumR (j : Nat) : List Nat → List (List Nat) → Nat
  | k :: ks, r :: R => k * r.getD j 0 + sumR j ks R
  | _, _ => 0
theorem boxes_mem {k0 : Nat} (hk : 1 ≤ k0) : ∀ (left p : List Nat), p ∈ boxes k0 left ↔ p.length = left.length ∧ ∀ j < left.length, k0 * p.getD j 0 ≤ left.getD j 0
  | [], p => by
    simp only [boxes, List.mem_singleton, List.length_nil, Nat.not_lt_zero, false_implies, implies_true, and_true]
    exact List.length_eq_zero_iff.symm
  | l :: ls, p => by
    unfold boxes
    rw [List.mem_flatMap]
    constructor
    · rintro ⟨n, hn, hp⟩
      obtain ⟨p', hp', rfl⟩ := List.mem_map.1 hp
      obtain ⟨h1, h2⟩ := (boxes_mem hk ls p').1 hp'
      rw [List.mem_range] at hn
      refine ⟨by simp [h1], fun j hj => ?_⟩
      cases j with
      | zero => simpa [Nat.mul_comm] using (Nat.le_div_iff_mul_le (show 0 < k0 by omega)).1 (show n ≤ l / k0 by omega)
      | succ j => simpa using h2 j (by simpa using hj)
    · rintro ⟨h1, h2⟩
      cases p with
      | nil => simp at h1
      | cons n p' =>
        have h0 := h2 0 (by simp)
        simp only [List.getD_cons_zero] at h0
        refine ⟨n, List.mem_range.2 (Nat.lt_succ_of_le ((Nat.le_div_iff_mul_le (by omega)).2 (by rw [Nat.mul_comm]; exact h0))), List.mem_map.2 ⟨p', (boxes_mem hk ls p').2 ⟨by simpa using h1, fun j hj => ?_⟩, rfl⟩⟩
        have := h2 (j + 1) (by simpa using hj)
        simpa using this
theorem boxes_rise {k0 : Nat} : ∀ left : List Nat, (boxes k0 left).Pairwise (· < ·)
  | [] => by simp [boxes]
  | l :: ls => by
    unfold boxes
    refine pair_flat _ (fun i _ => ?_) (fun i j hij _ x hx y hy => ?_)
    · rw [List.pairwise_map]
      exact (boxes_rise ls).imp fun {a b} h => List.cons_lt_cons_iff.2 (.inr ⟨rfl, h⟩)
    · obtain ⟨x', _, rfl⟩ := List.mem_map.1 hx
      obtain ⟨y', _, rfl⟩ := List.mem_map.1 hy
      exact List.cons_lt_cons_iff.2 (.inl hij)
theorem sub_len {k0 : Nat} {left p : List Nat} (h : p.length = left.length) : (subP k0 left p).length = left.length := by simp [subP, h]
theorem sub_at {k0 : Nat} : ∀ {left p : List Nat} {j : Nat}, p.length = left.length → j < left.length → (subP k0 left p).getD j 0 = left.getD j 0 - k0 * p.getD j 0
  | l :: ls, n :: p, 0, _, _ => rfl
  | l :: ls, n :: p, j + 1, h, hj => by simpa [subP] using sub_at (k0 := k0) (left := ls) (p := p) (j := j) (by simpa using h) (by simpa using hj)
  | [], _, j, _, hj => by simp at hj
  | l :: ls, [], _, h, _ => by simp at h
theorem WW_mem {e : Bool} : ∀ (ks left : List Nat), (∀ x ∈ ks, 1 ≤ x) → ∀ R, R ∈ WW e ks left ↔ R.length = ks.length ∧ (∀ r ∈ R, r.length = left.length ∧ (e || !r.all (· == 0)) = true) ∧ ∀ j < left.length, sumR j ks R = left.getD j 0
  | [], left, _, R => by
    unfold WW
    split
    · rename_i h
      rw [List.mem_singleton]
      constructor
      · rintro rfl
        refine ⟨rfl, fun r hr => absurd hr (by simp), fun j hj => ?_⟩
        rw [all0.1 h j hj]; rfl
      · rintro ⟨h1, _⟩; exact List.length_eq_zero_iff.1 h1
    · rename_i h
      constructor
      · intro h; cases h
      · rintro ⟨h1, _, h3⟩
        have := List.length_eq_zero_iff.1 h1
        subst this
        exact absurd (all0.2 fun j hj => (h3 j hj).symm) h
  | k :: ks, left, hk, R => by
    have hk1 : 1 ≤ k := hk k (by simp)
    unfold WW
    rw [List.mem_flatMap]
    constructor
    · rintro ⟨p, hp, hR⟩
      obtain ⟨hp, he⟩ := List.mem_filter.1 hp
      obtain ⟨R', hR', rfl⟩ := List.mem_map.1 hR
      obtain ⟨p1, p2⟩ := (boxes_mem hk1 left p).1 hp
      obtain ⟨g1, g2, g3⟩ := (WW_mem ks _ (fun x hx => hk x (by simp [hx])) R').1 hR'
      rw [sub_len p1] at g2 g3
      refine ⟨by simp [g1], fun r hr => ?_, fun j hj => ?_⟩
      · rcases List.mem_cons.1 hr with rfl | hr
        · exact ⟨p1, he⟩
        · exact g2 r hr
      · rw [sumR, g3 j hj, sub_at p1 hj]
        have := p2 j hj
        omega
    · rintro ⟨h1, h2, h3⟩
      cases R with
      | nil => simp at h1
      | cons p R' =>
        obtain ⟨p1, he⟩ := h2 p (by simp)
        have p2 : ∀ j < left.length, k * p.getD j 0 ≤ left.getD j 0 := fun j hj => by have := h3 j hj; rw [sumR] at this; omega
        refine ⟨p, List.mem_filter.2 ⟨(boxes_mem hk1 left p).2 ⟨p1, p2⟩, he⟩, List.mem_map.2 ⟨R', (WW_mem ks _ (fun x hx => hk x (by simp [hx])) R').2 ⟨by simpa using h1, fun r hr => ?_, fun j hj => ?_⟩, rfl⟩⟩
        · rw [sub_len p1]; exact h2 r (by simp [hr])
        · rw [sub_len p1] at hj
          rw [sub_at p1 hj]
          have := h3 j hj
          rw [sumR] at this
          omega
theorem app_lt : ∀ {p q : List Nat} {x y : List Nat}, p.length = q.length → p < q → p ++ x < q ++ y
  | [], [], _, _, _, h => absurd h (lt_irr _)
  | a :: p, b :: q, x, y, hl, h => by
    rw [List.cons_append, List.cons_append]
    rcases List.cons_lt_cons_iff.1 h with h1 | ⟨rfl, h1⟩
    · exact List.cons_lt_cons_iff.2 (.inl h1)
    · exact List.cons_lt_cons_iff.2 (.inr ⟨rfl, app_lt (by simpa using hl) h1⟩)
  | [], _ :: _, _, _, hl, _ => by simp at hl
  | _ :: _, [], _, _, hl, _ => by simp at hl
theorem app_lt_right {x y : List Nat} (h : x < y) : ∀ p : List Nat, p ++ x < p ++ y
  | [] => h
  | _ :: p => List.cons_lt_cons_iff.2 (.inr ⟨rfl, app_lt_right h p⟩)
theorem WW_rise {e : Bool} : ∀ (ks left : List Nat), (∀ x ∈ ks, 1 ≤ x) → ((WW e ks left).map List.flatten).Pairwise (· < ·)
  | [], left, _ => by unfold WW; split <;> simp
  | k :: ks, left, hk => by
    have hk1 : 1 ≤ k := hk k (by simp)
    unfold WW
    rw [List.map_flatMap, List.pairwise_flatMap]
    constructor
    · intro p _
      rw [List.map_map, show (List.flatten ∘ fun x => p :: x) = (fun x => p ++ x) ∘ List.flatten from rfl, ← List.map_map, List.pairwise_map]
      exact (WW_rise ks _ (fun x hx => hk x (by simp [hx]))).imp fun {a b} h => app_lt_right h p
    · refine List.Pairwise.imp_of_mem (fun {p q} hp hq hpq => ?_) ((boxes_rise left).filter _)
      intro x hx y hy
      obtain ⟨x1, hx1, rfl⟩ := List.mem_map.1 hx
      obtain ⟨x2, _, rfl⟩ := List.mem_map.1 hx1
      obtain ⟨y1, hy1, rfl⟩ := List.mem_map.1 hy
      obtain ⟨y2, _, rfl⟩ := List.mem_map.1 hy1
      have hp1 := ((boxes_mem hk1 left p).1 (List.mem_filter.1 hp).1).1
      have hq1 := ((boxes_mem hk1 left q).1 (List.mem_filter.1 hq).1).1
      exact app_lt (by rw [hp1, hq1]) hpq
theorem sum_row {K : Nat} {k : List Nat} {j i : Nat} (hj : j < K) : ∀ (r : List Nat) (c : Nat) (v : List Nat), c + r.length = K → sumOf K k j (i * K + c) (r ++ v) = (if c ≤ j then k.getD i 0 * r.getD (j - c) 0 else 0) + sumOf K k j ((i + 1) * K) v
  | [], c, v, h => by
    have : c = K := by simpa using h
    subst this
    rw [if_neg (by omega), Nat.zero_add, List.nil_append, Nat.succ_mul]
  | n :: r, c, v, h => by
    rw [List.length_cons] at h
    have h1 : (i * K + c) % K = c := by rw [Nat.add_comm, Nat.add_mul_mod_self_right, Nat.mod_eq_of_lt (by omega)]
    have h2 : (i * K + c) / K = i := by rw [Nat.add_comm, Nat.add_mul_div_right _ _ (by omega), Nat.div_eq_of_lt (by omega)]; omega
    rw [List.cons_append, sumOf, h1, h2, show i * K + c + 1 = i * K + (c + 1) by omega, sum_row hj r (c + 1) v (by omega)]
    by_cases e : c = j
    · subst e
      rw [if_pos rfl, if_neg (by omega), if_pos (Nat.le_refl _), Nat.sub_self, List.getD_cons_zero, Nat.mul_comm]; omega
    · rw [if_neg e]
      by_cases l : c + 1 ≤ j
      · rw [if_pos l, if_pos (by omega), show j - c = (j - (c + 1)) + 1 by omega, List.getD_cons_succ]; omega
      · rw [if_neg l, if_neg (by omega)]; omega
theorem has_row {K i : Nat} : ∀ (r : List Nat) (c : Nat) (v : List Nat), c + r.length = K → hasOf K (i * K + c) (r ++ v) = (if r.all (· == 0) then 0 else 2 ^ i) ||| hasOf K ((i + 1) * K) v
  | [], c, v, h => by
    have : c = K := by simpa using h
    subst this
    rw [List.nil_append, Nat.succ_mul]; simp
  | n :: r, c, v, h => by
    rw [List.length_cons] at h
    have h2 : (i * K + c) / K = i := by rw [Nat.add_comm, Nat.add_mul_div_right _ _ (by omega), Nat.div_eq_of_lt (by omega)]; omega
    rw [List.cons_append, hasOf, h2, show i * K + c + 1 = i * K + (c + 1) by omega, has_row r (c + 1) v (by omega), List.all_cons]
    by_cases e : n = 0
    · subst e; simp
    · rw [if_pos (show 0 < n by omega), show (n == 0) = false by simpa using e, Bool.false_and, if_neg (c := false = true) (by decide), ← Nat.or_assoc]
      congr 1
      split
      · rw [Nat.or_zero]
      · rw [Nat.or_self]
/-- Who has something, by rows. -/
def rowsHas : Nat → List (List Nat) → Nat
  | _, [] => 0
  | i, r :: R => (if r.all (· == 0) then 0 else 2 ^ i) ||| rowsHas (i + 1) R
theorem sum_rows {K : Nat} {k : List Nat} {j : Nat} (hj : j < K) : ∀ (R : List (List Nat)) (i : Nat), (∀ r ∈ R, r.length = K) → i + R.length = k.length → sumOf K k j (i * K) R.flatten = sumR j (k.drop i) R
  | [], i, _, _ => by cases k.drop i <;> rfl
  | r :: R, i, h, hi => by
    rw [List.length_cons] at hi
    have := sum_row hj (k := k) (i := i) r 0 R.flatten (by simpa using h r (by simp))
    rw [Nat.add_zero] at this
    rw [List.flatten_cons, this, if_pos (Nat.zero_le _), Nat.sub_zero, sum_rows hj R (i + 1) (fun x hx => h x (by simp [hx])) (by omega), List.drop_eq_getElem_cons (by omega : i < k.length), sumR]
    congr 2
    rw [List.getD_eq_getElem?_getD, List.getElem?_eq_getElem (by omega)]; rfl
theorem has_rows {K : Nat} : ∀ (R : List (List Nat)) (i : Nat), (∀ r ∈ R, r.length = K) → hasOf K (i * K) R.flatten = rowsHas i R
  | [], i, _ => rfl
  | r :: R, i, h => by
    have := has_row (i := i) r 0 R.flatten (by simpa using h r (by simp))
    rw [Nat.add_zero] at this
    rw [List.flatten_cons, this, has_rows R (i + 1) (fun x hx => h x (by simp [hx])), rowsHas]
theorem rowsHas_bit : ∀ (R : List (List Nat)) (i s : Nat), (rowsHas i R).testBit s = true ↔ i ≤ s ∧ ∃ h : s - i < R.length, (R[s - i]).all (· == 0) = false
  | [], i, s => by simp [rowsHas]
  | r :: R, i, s => by
    rw [rowsHas, Nat.testBit_or, Bool.or_eq_true, rowsHas_bit R (i + 1) s]
    constructor
    · rintro (h | ⟨h1, h2, h3⟩)
      · split at h
        · simp at h
        · rename_i hr
          rw [Nat.testBit_two_pow] at h
          have : i = s := of_decide_eq_true h
          subst this
          exact ⟨Nat.le_refl _, by simp, by simpa using hr⟩
      · refine ⟨by omega, by rw [List.length_cons]; omega, ?_⟩
        have e : s - i = (s - (i + 1)) + 1 := by omega
        simp only [e, List.getElem_cons_succ]
        exact h3
    · rintro ⟨h1, h2, h3⟩
      by_cases e : s = i
      · subst e
        left
        simp only [Nat.sub_self, List.getElem_cons_zero] at h3
        rw [if_neg (by rw [h3]; simp)]
        exact Nat.testBit_two_pow_self
      · right
        have e' : s - i = (s - (i + 1)) + 1 := by omega
        rw [List.length_cons] at h2
        refine ⟨by omega, by omega, ?_⟩
        simp only [e', List.getElem_cons_succ] at h3
        exact h3
theorem all_bit (T s : Nat) : (allB T).testBit s = decide (s < T) := Nat.testBit_two_pow_sub_one T s
/-- All have something. -/
theorem all_has {e : Bool} {R : List (List Nat)} {T : Nat} (hT : R.length = T) : (if e then allB T else 0) ||| rowsHas 0 R = allB T ↔ ∀ r ∈ R, (e || !r.all (· == 0)) = true := by
  cases e with
  | true =>
    simp only [if_true, Bool.true_or, implies_true, iff_true]
    refine Nat.eq_of_testBit_eq fun s => ?_
    rw [Bool.eq_iff_iff, Nat.testBit_or, all_bit, Bool.or_eq_true, rowsHas_bit, decide_eq_true_eq]
    constructor
    · rintro (h | ⟨_, h, _⟩)
      · exact h
      · omega
    · exact .inl
  | false =>
    simp only [Bool.false_eq_true, if_false, Nat.zero_or, Bool.false_or, Bool.not_eq_true']
    constructor
    · intro h r hr
      obtain ⟨s, hs, rfl⟩ := List.getElem_of_mem hr
      have : (rowsHas 0 R).testBit s = true := by rw [h, all_bit]; exact decide_eq_true (by omega)
      obtain ⟨_, h2, h3⟩ := (rowsHas_bit R 0 s).1 this
      exact h3
    · intro h
      refine Nat.eq_of_testBit_eq fun s => ?_
      rw [Bool.eq_iff_iff, all_bit, rowsHas_bit, decide_eq_true_eq]
      constructor
      · rintro ⟨_, h2, _⟩; omega
      · intro hs
        exact ⟨Nat.zero_le _, by omega, h _ (List.getElem_mem _)⟩
/-- A way's rows. -/
def rowsN (K : Nat) : Nat → List Nat → List (List Nat)
  | 0, _ => []
  | T + 1, v => v.take K :: rowsN K T (v.drop K)
theorem rowsN_len (K : Nat) : ∀ (T : Nat) (v : List Nat), (rowsN K T v).length = T
  | 0, _ => rfl
  | T + 1, v => by rw [rowsN, List.length_cons, rowsN_len K T]
theorem rowsN_all {K : Nat} : ∀ (T : Nat) (v : List Nat), v.length = K * T → (∀ r ∈ rowsN K T v, r.length = K) ∧ (rowsN K T v).flatten = v
  | 0, v, h => by
    have : v = [] := List.length_eq_zero_iff.1 (by simpa using h)
    subst this
    exact ⟨fun r hr => absurd hr (by simp [rowsN]), rfl⟩
  | T + 1, v, h => by
    rw [Nat.mul_succ] at h
    obtain ⟨h1, h2⟩ := rowsN_all (K := K) T (v.drop K) (by rw [List.length_drop]; omega)
    refine ⟨fun r hr => ?_, by rw [rowsN, List.flatten_cons, h2, List.take_append_drop]⟩
    rcases List.mem_cons.1 hr with rfl | hr
    · rw [List.length_take]; omega
    · exact h1 r hr
theorem rowsN_flat {K : Nat} : ∀ (R : List (List Nat)), (∀ r ∈ R, r.length = K) → rowsN K R.length R.flatten = R
  | [], _ => rfl
  | r :: R, h => by
    have hr := h r (by simp)
    rw [List.length_cons, rowsN, List.flatten_cons, ← hr, List.take_left, List.drop_left, hr, rowsN_flat R (fun x hx => h x (by simp [hx]))]
theorem flat_len {K : Nat} : ∀ (R : List (List Nat)), (∀ r ∈ R, r.length = K) → R.flatten.length = K * R.length
  | [], _ => rfl
  | r :: R, h => by rw [List.flatten_cons, List.length_append, h r (by simp), flat_len R (fun x hx => h x (by simp [hx])), List.length_cons, Nat.mul_succ]; omega
theorem get_pos {k : List Nat} (hk : ∀ x ∈ k, 1 ≤ x) : ∀ i < k.length, 1 ≤ k.getD i 0 := fun i hi => by
  rw [List.getD_eq_getElem?_getD, List.getElem?_eq_getElem hi]; exact hk _ (List.getElem_mem hi)
/-- What stands in a way. -/
theorem waysF_mem {m k : List Nat} {e : Bool} (hk : ∀ x ∈ k, 1 ≤ x) (v : List Nat) : v ∈ waysF m k e ↔ ∃ R, R ∈ WW e k m ∧ v = R.flatten := by
  unfold waysF
  rw [LL_mem (get_pos hk) _ _ _ _ (by omega) rfl]
  constructor
  · rintro ⟨h1, h2, h3⟩
    obtain ⟨r1, r2⟩ := rowsN_all k.length v h1
    have r3 := rowsN_len m.length k.length v
    refine ⟨rowsN m.length k.length v, (WW_mem k m hk _).2 ⟨r3, ?_, fun j hj => ?_⟩, r2.symm⟩
    · have h4 := has_rows (K := m.length) _ 0 r1
      rw [Nat.zero_mul, r2] at h4
      rw [h4] at h3
      have := (all_has r3).1 h3
      exact fun r hr => ⟨r1 r hr, this r hr⟩
    · have h4 := sum_rows (k := k) hj _ 0 r1 (by omega)
      rw [Nat.zero_mul, r2, List.drop_zero] at h4
      rw [← h4, h2 j hj]
  · rintro ⟨R, hR, rfl⟩
    obtain ⟨g1, g2, g3⟩ := (WW_mem k m hk R).1 hR
    have g4 := fun r hr => (g2 r hr).1
    refine ⟨by rw [flat_len R g4, g1], fun j hj => ?_, ?_⟩
    · have h4 := sum_rows (k := k) hj _ 0 g4 (by omega)
      rw [Nat.zero_mul, List.drop_zero] at h4
      rw [h4, g3 j hj]
    · have h4 := has_rows (K := m.length) _ 0 g4
      rw [Nat.zero_mul] at h4
      rw [h4]
      exact (all_has g1).2 fun r hr => (g2 r hr).2
/-- The document's ways are the program's. -/
theorem ways_same {m k : List Nat} {e : Bool} (hk : ∀ x ∈ k, 1 ≤ x) : (WW e k m).map List.flatten = waysF m k e :=
  rise_ext (WW_rise k m hk) (LL_rise _ _ _ _) fun x => by
    rw [waysF_mem hk, List.mem_map]
    exact ⟨fun ⟨R, h, e⟩ => ⟨R, h, e.symm⟩, fun ⟨R, h, e⟩ => ⟨R, h, e.symm⟩⟩
theorem ways_rows {m k : List Nat} {e : Bool} (hk : ∀ x ∈ k, 1 ≤ x) : WW e k m = (waysF m k e).map (rowsN m.length k.length) := by
  rw [← ways_same hk, List.map_map]
  conv => lhs; rw [← List.map_id (WW e k m)]
  refine List.map_congr_left fun R hR => ?_
  obtain ⟨g1, g2, _⟩ := (WW_mem k m hk R).1 hR
  show R = rowsN m.length k.length R.flatten
  rw [← g1, rowsN_flat R fun r hr => (g2 r hr).1]
end Go.Proofs.YtdpdpjfnanjmgaaDoor
