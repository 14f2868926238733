/- Splits, plainly: how many ways there are, kind by kind. -/
import Derived.Test.YtdpdpjfnanjmgaaDoorSpR
namespace Go.Proofs.YtdpdpjfnanjmgaaDoor

/-- The ways of one kind: who has how many. -/
def colsN (n : Nat) (k : List Nat) : List (List Nat) := waysF [n] k true
/-- Who has something of it. -/
def givenN (c : List Nat) : Nat := hasOf 1 0 c
theorem cols_mem {n : Nat} {k : List Nat} (hk : ∀ x ∈ k, 1 ≤ x) (c : List Nat) : c ∈ colsN n k ↔ c.length = k.length ∧ sumOf 1 k 0 0 c = n := by
  unfold colsN
  rw [waysF_mem hk]
  constructor
  · rintro ⟨R, hR, rfl⟩
    obtain ⟨g1, g2, g3⟩ := (WW_mem k [n] hk R).1 hR
    have g4 := fun r hr => (g2 r hr).1
    refine ⟨by rw [flat_len (K := 1) R g4, g1, Nat.one_mul], ?_⟩
    have h4 := sum_rows (K := 1) (k := k) (j := 0) (by omega) _ 0 g4 (by omega)
    rw [Nat.zero_mul, List.drop_zero] at h4
    rw [h4, g3 0 (by simp)]; rfl
  · rintro ⟨h1, h2⟩
    obtain ⟨r1, r2⟩ := rowsN_all (K := 1) k.length c (by rw [Nat.one_mul]; exact h1)
    have r3 := rowsN_len 1 k.length c
    refine ⟨rowsN 1 k.length c, (WW_mem k [n] hk _).2 ⟨r3, fun r hr => ⟨r1 r hr, rfl⟩, fun j hj => ?_⟩, r2.symm⟩
    have : j = 0 := by simpa using hj
    subst this
    have h4 := sum_rows (K := 1) (k := k) (j := 0) (by omega) _ 0 r1 (by omega)
    rw [Nat.zero_mul, r2, List.drop_zero] at h4
    rw [← h4, h2]; rfl
theorem cols_nodup (n : Nat) (k : List Nat) : (colsN n k).Nodup := rise_nodup (LL_rise _ _ _ _)
/-- A way of each kind. -/
def cts (k : List Nat) : List Nat → List (List (List Nat))
  | [] => [[]]
  | n :: ns => (colsN n k).flatMap fun c => (cts k ns).map (c :: ·)
theorem cts_mem {k : List Nat} : ∀ (ms : List Nat) (cs : List (List Nat)), cs ∈ cts k ms ↔ cs.length = ms.length ∧ ∀ j < ms.length, cs.getD j [] ∈ colsN (ms.getD j 0) k
  | [], cs => by
    simp only [cts, List.mem_singleton, List.length_nil, Nat.not_lt_zero, false_implies, implies_true, and_true]
    exact List.length_eq_zero_iff.symm
  | n :: ns, cs => by
    rw [cts, List.mem_flatMap]
    constructor
    · rintro ⟨c, hc, h⟩
      obtain ⟨cs', h', rfl⟩ := List.mem_map.1 h
      obtain ⟨g1, g2⟩ := (cts_mem ns cs').1 h'
      refine ⟨by simp [g1], fun j hj => ?_⟩
      cases j with
      | zero => simpa using hc
      | succ j => simpa using g2 j (by simpa using hj)
    · rintro ⟨h1, h2⟩
      cases cs with
      | nil => simp at h1
      | cons c cs' => exact ⟨c, by simpa using h2 0 (by simp), List.mem_map.2 ⟨cs', (cts_mem ns cs').2 ⟨by simpa using h1, fun j hj => by simpa using h2 (j + 1) (by simpa using hj)⟩, rfl⟩⟩
theorem cts_nodup (k : List Nat) : ∀ ms : List Nat, (cts k ms).Nodup
  | [] => by simp [cts]
  | n :: ns => by
    rw [cts]
    unfold List.Nodup
    rw [List.pairwise_flatMap]
    refine ⟨fun c _ => ?_, (cols_nodup n k).imp fun {a b} hab x hx y hy e => ?_⟩
    · rw [List.pairwise_map]
      exact (cts_nodup k ns).imp fun {a b} h e => h (List.cons.inj e).2
    · obtain ⟨x', _, rfl⟩ := List.mem_map.1 hx
      obtain ⟨y', _, rfl⟩ := List.mem_map.1 hy
      exact hab (List.cons.inj e).1
def ugN : List (List Nat) → Nat
  | [] => 0
  | c :: cs => givenN c ||| ugN cs
theorem hasOf1_bit : ∀ (c : List Nat) (p s : Nat), (hasOf 1 p c).testBit s = true ↔ p ≤ s ∧ ∃ h : s - p < c.length, 0 < c[s - p]
  | [], p, s => by simp [hasOf]
  | n :: c, p, s => by
    rw [hasOf, Nat.testBit_or, Bool.or_eq_true, hasOf1_bit c (p + 1) s, Nat.div_one]
    constructor
    · rintro (h | ⟨h1, h2, h3⟩)
      · split at h
        · rename_i hn
          rw [Nat.testBit_two_pow] at h
          have : p = s := of_decide_eq_true h
          subst this
          exact ⟨Nat.le_refl _, by simp, by simpa using hn⟩
        · simp at h
      · refine ⟨by omega, by rw [List.length_cons]; omega, ?_⟩
        have e : s - p = (s - (p + 1)) + 1 := by omega
        simp only [e, List.getElem_cons_succ]
        exact h3
    · rintro ⟨h1, h2, h3⟩
      by_cases e : s = p
      · subst e
        left
        simp only [Nat.sub_self, List.getElem_cons_zero] at h3
        rw [if_pos h3]
        exact Nat.testBit_two_pow_self
      · right
        have e' : s - p = (s - (p + 1)) + 1 := by omega
        rw [List.length_cons] at h2
        refine ⟨by omega, by omega, ?_⟩
        simp only [e', List.getElem_cons_succ] at h3
        exact h3
theorem given_bit (c : List Nat) (s : Nat) : (givenN c).testBit s = true ↔ 0 < c.getD s 0 := by
  unfold givenN
  rw [hasOf1_bit, Nat.sub_zero, List.getD_eq_getElem?_getD]
  constructor
  · rintro ⟨_, h, g⟩; rw [List.getElem?_eq_getElem h]; exact g
  · intro h
    by_cases hs : s < c.length
    · rw [List.getElem?_eq_getElem hs] at h; exact ⟨Nat.zero_le _, hs, h⟩
    · rw [List.getElem?_eq_none (by omega)] at h; simp at h
theorem ug_bit : ∀ (cs : List (List Nat)) (s : Nat), (ugN cs).testBit s = true ↔ ∃ c ∈ cs, 0 < c.getD s 0
  | [], s => by simp [ugN]
  | c :: cs, s => by
    rw [ugN, Nat.testBit_or, Bool.or_eq_true, given_bit, ug_bit cs s]
    simp
/-- The columns of a way. -/
def colsOf (K : Nat) (R : List (List Nat)) : List (List Nat) := (List.range K).map fun j => R.map (·.getD j 0)
def rowsOf (T : Nat) (cs : List (List Nat)) : List (List Nat) := (List.range T).map fun i => cs.map (·.getD i 0)
theorem getD_map {α β : Type} (f : α → β) (d : α) (d' : β) (l : List α) (i : Nat) (h : i < l.length) : (l.map f).getD i d' = f (l.getD i d) := by
  rw [List.getD_eq_getElem?_getD, List.getD_eq_getElem?_getD, List.getElem?_map, List.getElem?_eq_getElem h]; rfl
theorem getD_range {α : Type} (f : Nat → α) (d : α) {n i : Nat} (h : i < n) : ((List.range n).map f).getD i d = f i := by
  rw [List.getD_eq_getElem?_getD, List.getElem?_map, List.getElem?_range h]; rfl
theorem ext_getD {α : Type} {l m : List α} (d : α) (hl : l.length = m.length) (h : ∀ i < l.length, l.getD i d = m.getD i d) : l = m := by
  refine List.ext_getElem hl fun i h1 h2 => ?_
  have := h i h1
  rw [List.getD_eq_getElem?_getD, List.getD_eq_getElem?_getD, List.getElem?_eq_getElem h1, List.getElem?_eq_getElem h2] at this
  exact this
theorem rows_cols {K : Nat} {R : List (List Nat)} (h : ∀ r ∈ R, r.length = K) : rowsOf R.length (colsOf K R) = R := by
  unfold rowsOf
  refine ext_getD [] (by simp) fun i hi => ?_
  have hi' : i < R.length := by simpa using hi
  rw [getD_range _ _ hi']
  have hr : R.getD i [] = R[i] := by rw [List.getD_eq_getElem?_getD, List.getElem?_eq_getElem hi']; rfl
  have hl : (R.getD i []).length = K := by rw [hr]; exact h _ (List.getElem_mem hi')
  refine ext_getD 0 (by rw [List.length_map, hl]; unfold colsOf; rw [List.length_map, List.length_range]) fun j hj => ?_
  have hj' : j < K := by simpa [colsOf] using hj
  rw [getD_map _ [] _ _ _ (by simpa [colsOf] using hj')]
  unfold colsOf
  rw [getD_range _ _ hj', getD_map _ [] _ _ _ hi']
theorem cols_rows {T : Nat} {cs : List (List Nat)} (h : ∀ c ∈ cs, c.length = T) : colsOf cs.length (rowsOf T cs) = cs := rows_cols h
theorem sum_col {k : List Nat} {j : Nat} : ∀ (R : List (List Nat)) (i : Nat), i + R.length = k.length → sumR j (k.drop i) R = sumOf 1 k 0 i (R.map (·.getD j 0))
  | [], i, _ => by cases k.drop i <;> rfl
  | r :: R, i, hi => by
    rw [List.length_cons] at hi
    rw [List.drop_eq_getElem_cons (by omega : i < k.length), sumR, sum_col R (i + 1) (by omega), List.map_cons, sumOf, Nat.mod_one, if_pos rfl, Nat.div_one, Nat.mul_comm]
    congr 2
    rw [List.getD_eq_getElem?_getD, List.getElem?_eq_getElem (by omega)]; rfl
theorem mem_getD {α : Type} {l : List α} (d : α) {x : α} : x ∈ l ↔ ∃ i < l.length, l.getD i d = x := by
  rw [List.mem_iff_getElem]
  constructor
  · rintro ⟨i, hi, e⟩; exact ⟨i, hi, by rw [List.getD_eq_getElem?_getD, List.getElem?_eq_getElem hi]; exact e⟩
  · rintro ⟨i, hi, e⟩; exact ⟨i, hi, by rw [List.getD_eq_getElem?_getD, List.getElem?_eq_getElem hi] at e; exact e⟩
/-- Who has something is told by the columns. -/
theorem ug_rows {K : Nat} {R : List (List Nat)} (h : ∀ r ∈ R, r.length = K) : ugN (colsOf K R) = rowsHas 0 R := Nat.eq_of_testBit_eq fun s => by
  rw [Bool.eq_iff_iff, ug_bit, rowsHas_bit]
  simp only [Nat.zero_le, true_and, Nat.sub_zero]
  constructor
  · rintro ⟨c, hc, hs⟩
    obtain ⟨j, hj, rfl⟩ := List.mem_map.1 hc
    rw [List.mem_range] at hj
    have hsR : s < R.length := Nat.lt_of_not_le fun hle => by
      rw [List.getD_eq_getElem?_getD, List.getElem?_eq_none (by simpa using hle)] at hs; simp at hs
    rw [getD_map _ [] _ _ _ hsR] at hs
    refine ⟨hsR, ?_⟩
    have hr : R.getD s [] = R[s] := by rw [List.getD_eq_getElem?_getD, List.getElem?_eq_getElem hsR]; rfl
    rw [hr] at hs
    have hl := h _ (List.getElem_mem hsR)
    cases e : (R[s]).all (· == 0) with
    | false => rfl
    | true => have := all0.1 e j (by omega); omega
  · rintro ⟨hsR, h0⟩
    have hl := h _ (List.getElem_mem hsR)
    have hr : R.getD s [] = R[s] := by rw [List.getD_eq_getElem?_getD, List.getElem?_eq_getElem hsR]; rfl
    obtain ⟨j, hj, hne⟩ : ∃ j, j < K ∧ (R[s]).getD j 0 ≠ 0 := by
      by_cases hx : ∃ j, j < K ∧ (R[s]).getD j 0 ≠ 0
      · exact hx
      · rw [all0.2 fun j hj => by
          by_cases e : (R[s]).getD j 0 = 0
          · exact e
          · exact absurd ⟨j, by omega, e⟩ hx] at h0
        cases h0
    refine ⟨R.map (·.getD j 0), List.mem_map.2 ⟨j, List.mem_range.2 hj, rfl⟩, ?_⟩
    rw [getD_map _ [] _ _ _ hsR, hr]
    omega
theorem WW_nodup {e : Bool} {k m : List Nat} (hk : ∀ x ∈ k, 1 ≤ x) : (WW e k m).Nodup := by
  have h := WW_rise (e := e) k m hk
  rw [List.pairwise_map] at h
  exact h.imp fun {a b} hab e => by subst e; exact lt_irr _ hab
theorem map_nodup {α β : Type} {f : α → β} {l : List α} (h : l.Nodup) (hf : ∀ x ∈ l, ∀ y ∈ l, f x = f y → x = y) : (l.map f).Nodup := by
  unfold List.Nodup
  rw [List.pairwise_map]
  exact List.Pairwise.imp_of_mem (fun {a b} ha hb hab e => hab (hf a ha b hb e)) h
/-- As many ways as choices of a way of each kind by which all have something. -/
theorem WW_count {e : Bool} {k m : List Nat} (hk : ∀ x ∈ k, 1 ≤ x) : (cts k m).countP (fun cs => (if e then allB k.length else 0) ||| ugN cs == allB k.length) = (WW e k m).length := by
  rw [List.countP_eq_length_filter]
  have hp : ((WW e k m).map (colsOf m.length)).Perm ((cts k m).filter fun cs => (if e then allB k.length else 0) ||| ugN cs == allB k.length) := by
    rw [List.perm_ext_iff_of_nodup]
    · intro cs
      rw [List.mem_map, List.mem_filter, cts_mem]
      constructor
      · rintro ⟨R, hR, rfl⟩
        obtain ⟨g1, g2, g3⟩ := (WW_mem k m hk R).1 hR
        have g4 := fun r hr => (g2 r hr).1
        refine ⟨⟨by simp [colsOf], fun j hj => ?_⟩, ?_⟩
        · unfold colsOf
          rw [getD_range _ _ hj, cols_mem hk]
          refine ⟨by simp [g1], ?_⟩
          rw [← sum_col R 0 (by omega), List.drop_zero]
          exact g3 j hj
        · rw [ug_rows g4, beq_iff_eq]
          exact (all_has g1).2 fun r hr => (g2 r hr).2
      · rintro ⟨⟨h1, h2⟩, h3⟩
        have hc : ∀ c ∈ cs, c.length = k.length := fun c hc => by
          obtain ⟨j, hj, rfl⟩ := (mem_getD []).1 hc
          exact ((cols_mem hk _).1 (h2 j (by omega))).1
        have hrc := cols_rows hc
        rw [h1] at hrc
        refine ⟨rowsOf k.length cs, (WW_mem k m hk _).2 ⟨by simp [rowsOf], ?_, fun j hj => ?_⟩, hrc⟩
        · have hl : ∀ r ∈ rowsOf k.length cs, r.length = m.length := fun r hr => by
            obtain ⟨i, _, rfl⟩ := List.mem_map.1 hr
            rw [List.length_map, h1]
          rw [beq_iff_eq, ← hrc, ug_rows hl] at h3
          have := (all_has (by simp [rowsOf])).1 h3
          exact fun r hr => ⟨hl r hr, this r hr⟩
        · have h4 := sum_col (k := k) (j := j) (rowsOf k.length cs) 0 (by simp [rowsOf])
          rw [List.drop_zero] at h4
          rw [h4]
          have h5 : (colsOf m.length (rowsOf k.length cs)).getD j [] = cs.getD j [] := by rw [hrc]
          unfold colsOf at h5
          rw [getD_range _ _ hj] at h5
          rw [h5]
          exact ((cols_mem hk _).1 (h2 j hj)).2
    · refine map_nodup (WW_nodup hk) fun R hR R' hR' h => ?_
      obtain ⟨g1, g2, _⟩ := (WW_mem k m hk R).1 hR
      obtain ⟨g1', g2', _⟩ := (WW_mem k m hk R').1 hR'
      have a := rows_cols fun r hr => (g2 r hr).1
      have b := rows_cols fun r hr => (g2' r hr).1
      rw [← a, ← b, h, g1, g1']
    · exact (cts_nodup k m).filter _
  rw [← hp.length_eq, List.length_map]
/-- The tally, as a list of sets. -/
def tallyL (k : List Nat) : List Nat → List Nat → List Nat
  | [], A => A
  | n :: ns, A => tallyL k ns ((colsN n k).flatMap fun c => A.map (· ||| givenN c))
theorem sum_add {α : Type} (f g : α → Nat) : ∀ l : List α, (l.map fun x => f x + g x).sum = (l.map f).sum + (l.map g).sum
  | [] => rfl
  | x :: l => by simp only [List.map_cons, List.sum_cons, sum_add f g l]; omega
theorem sum_zero {α : Type} : ∀ l : List α, (l.map fun _ => 0).sum = 0
  | [] => rfl
  | x :: l => by simp only [List.map_cons, List.sum_cons, sum_zero l]
theorem sum_swap {α β : Type} (f : α → β → Nat) (m : List β) : ∀ l : List α, (l.map fun a => (m.map fun b => f a b).sum).sum = (m.map fun b => (l.map fun a => f a b).sum).sum
  | [] => by simp [sum_zero]
  | a :: l => by
    simp only [List.map_cons, List.sum_cons]
    rw [sum_swap f m l, sum_add]
theorem sum_flat {α β : Type} (F : β → Nat) (f : α → List β) : ∀ l : List α, ((l.flatMap f).map F).sum = (l.map fun a => ((f a).map F).sum).sum
  | [] => rfl
  | a :: l => by rw [List.flatMap_cons, List.map_append, List.sum_append, sum_flat F f l, List.map_cons, List.sum_cons]
theorem tally_count {k : List Nat} {full : Nat} : ∀ (ms A : List Nat), (tallyL k ms A).countP (· == full) = (A.map fun a => (cts k ms).countP fun cs => a ||| ugN cs == full).sum
  | [], A => by
    show A.countP _ = _
    induction A with
    | nil => rfl
    | cons a A ih =>
      rw [List.countP_cons, ih, List.map_cons, List.sum_cons, Nat.add_comm]
      congr 1
      simp [cts, ugN, List.countP_cons]
  | n :: ns, A => by
    have h1 : ∀ a, (cts k (n :: ns)).countP (fun cs => a ||| ugN cs == full) = ((colsN n k).map fun c => (cts k ns).countP fun cs => (a ||| givenN c) ||| ugN cs == full).sum := fun a => by
      rw [cts, List.countP_flatMap]
      congr 1
      refine List.map_congr_left fun c _ => ?_
      show List.countP _ (List.map _ _) = _
      rw [List.countP_map]
      congr 1
      funext cs
      show (a ||| (givenN c ||| ugN cs) == full) = _
      rw [Nat.or_assoc]
    rw [tallyL, tally_count ns, sum_flat]
    simp only [List.map_map, h1]
    exact sum_swap (fun c a => (cts k ns).countP fun cs => (a ||| givenN c) ||| ugN cs == full) A (colsN n k)
/-- The tally's answer. -/
theorem tally_ways {e : Bool} {k m : List Nat} (hk : ∀ x ∈ k, 1 ≤ x) : (tallyL k m [if e then allB k.length else 0]).count (allB k.length) = (waysF m k e).length := by
  rw [List.count_eq_countP, tally_count, List.map_cons, List.map_nil, List.sum_cons, List.sum_nil, Nat.add_zero, WW_count hk, ← ways_same hk, List.length_map]
theorem flat_le {α β : Type} {f : α → List β} {b : Nat} : ∀ {l : List α}, (∀ a ∈ l, (f a).length ≤ b) → (l.flatMap f).length ≤ l.length * b
  | [], _ => by simp
  | a :: l, h => by
    have := flat_le (l := l) fun x hx => h x (by simp [hx])
    have := h a (by simp)
    rw [List.flatMap_cons, List.length_append, List.length_cons, Nat.succ_mul]; omega
/-- How many things of one kind go at most. -/
theorem LL_few {k : List Nat} {full : Nat} (hk : ∀ i < k.length, 1 ≤ k.getD i 0) : ∀ (r p : Nat) (l has : Nat), p + (r + 1) = k.length → l ≤ 6 → (LL 1 k full (r + 1) p [l] has).length ≤ 7 ^ r
  | 0, p, l, has, hp, _ => by
    have h1 := LL_mem (K := 1) (full := full) hk 1 p [l] has (by omega) rfl
    have h2 := rise_nodup (LL_rise (K := 1) (k := k) (full := full) 1 p [l] has)
    obtain ⟨M, hM⟩ : ∃ M, LL 1 k full (0 + 1) p [l] has = M := ⟨_, rfl⟩
    rw [hM] at h1 h2 ⊢
    match M, h1, h2 with
    | [], _, _ => simp
    | [x], _, _ => simp
    | x :: y :: M, h1, h2 =>
      exfalso
      obtain ⟨a1, a2, _⟩ := (h1 x).1 (by simp)
      obtain ⟨b1, b2, _⟩ := (h1 y).1 (by simp)
      match x, y, a1, b1, h2, a2, b2 with
      | [a], [b], _, _, h2, a2, b2 =>
        have a3 := a2 0 (by omega)
        have b3 := b2 0 (by omega)
        simp only [sumOf, Nat.mod_one, Nat.div_one, if_true, Nat.add_zero, List.getD_cons_zero] at a3 b3
        have h0 := hk p (by omega)
        have : a = b := Nat.eq_of_mul_eq_mul_right (by omega) (a3.trans b3.symm)
        subst this
        simp at h2
  | r + 1, p, l, has, hp, hl => by
    unfold LL
    have h0 := hk p (by omega)
    refine Nat.le_trans (flat_le (b := 7 ^ r) fun n _ => ?_) ?_
    · rw [List.length_map, Nat.mod_one, Nat.div_one, List.getD_cons_zero, List.set_cons_zero]
      exact LL_few hk r (p + 1) _ _ (by omega) (by omega)
    · rw [List.length_range, Nat.mod_one, Nat.div_one, List.getD_cons_zero, Nat.pow_succ, Nat.mul_comm]
      refine Nat.mul_le_mul_left _ ?_
      have := Nat.div_le_self l (k.getD p 0)
      omega
theorem cols_few {n : Nat} {k : List Nat} (hk : ∀ x ∈ k, 1 ≤ x) (hn : n ≤ 6) (hT : k.length ≤ 5) : (colsN n k).length ≤ 2401 := by
  unfold colsN waysF
  rw [show [n].length * k.length = k.length by simp]
  obtain ⟨T, hT'⟩ : ∃ T, k.length = T := ⟨_, rfl⟩
  cases T with
  | zero =>
    have h2 : ∀ b : Bool, (if b then [[]] else ([] : List (List Nat))).length ≤ 2401 := by decide
    rw [hT']; unfold LL; exact h2 _
  | succ T =>
    rw [hT']
    refine Nat.le_trans (LL_few (get_pos hk) T 0 n _ (by omega) hn) ?_
    exact Nat.le_trans (Nat.pow_le_pow_right (by omega) (show T ≤ 4 by omega)) (by decide)
theorem cts_len (k : List Nat) : ∀ ms : List Nat, (cts k ms).length = (ms.map fun n => (colsN n k).length).foldr (· * ·) 1
  | [] => rfl
  | n :: ns => by
    rw [cts, List.map_cons, List.foldr_cons, ← cts_len k ns]
    obtain ⟨C, hC⟩ : ∃ C, colsN n k = C := ⟨_, rfl⟩
    rw [hC]
    clear hC
    induction C with
    | nil => simp
    | cons c C ih => rw [List.flatMap_cons, List.length_append, ih, List.length_map, List.length_cons, Nat.succ_mul]; omega
/-- Where parts may be empty, as many as of each kind, times one another. -/
theorem ways_prod {k m : List Nat} (hk : ∀ x ∈ k, 1 ≤ x) : (waysF m k true).length = (m.map fun n => (waysF [n] k true).length).foldr (· * ·) 1 := by
  have h := WW_count (e := true) (m := m) hk
  rw [← ways_same hk, List.length_map, ← h, show (m.map fun n => (waysF [n] k true).length) = m.map fun n => (colsN n k).length from rfl, ← cts_len]
  rw [List.countP_eq_length]
  intro cs hcs
  obtain ⟨h1, h2⟩ := (cts_mem m cs).1 hcs
  rw [beq_iff_eq, if_pos rfl]
  refine Nat.eq_of_testBit_eq fun s => ?_
  rw [Bool.eq_iff_iff, Nat.testBit_or, all_bit, Bool.or_eq_true, ug_bit, decide_eq_true_eq]
  constructor
  · rintro (h | ⟨c, hc, hs⟩)
    · exact h
    · obtain ⟨j, hj, rfl⟩ := (mem_getD []).1 hc
      have h3 := ((cols_mem hk _).1 (h2 j (by omega))).1
      refine Nat.lt_of_not_le fun hle => ?_
      rw [List.getD_eq_getElem?_getD, List.getElem?_eq_none (by omega)] at hs
      simp at hs
  · exact .inl
/-- Those of all ways in which nobody has nothing are the ways without. -/
theorem ways_full {k m : List Nat} (hk : ∀ x ∈ k, 1 ≤ x) : (WW true k m).countP (fun R => R.all fun r => !r.all (· == 0)) = (waysF m k false).length := by
  rw [← ways_same hk, List.length_map, List.countP_eq_length_filter]
  refine List.Perm.length_eq ((List.perm_ext_iff_of_nodup ((WW_nodup hk).filter _) (WW_nodup hk)).2 fun R => ?_)
  rw [List.mem_filter, WW_mem k m hk, WW_mem k m hk, List.all_eq_true]
  constructor
  · rintro ⟨⟨h1, h2, h3⟩, h4⟩
    exact ⟨h1, fun r hr => ⟨(h2 r hr).1, by simpa using h4 r hr⟩, h3⟩
  · rintro ⟨h1, h2, h3⟩
    exact ⟨⟨h1, fun r hr => ⟨(h2 r hr).1, rfl⟩, h3⟩, fun r hr => by simpa using (h2 r hr).2⟩
theorem sumR_app {j : Nat} : ∀ (a b : List Nat) (R S : List (List Nat)), a.length = R.length → sumR j (a ++ b) (R ++ S) = sumR j a R + sumR j b S
  | [], b, [], S, _ => by simp [sumR]
  | x :: a, b, r :: R, S, h => by
    rw [List.cons_append, List.cons_append, sumR, sumR, sumR_app a b R S (by simpa using h), Nat.add_assoc]
  | [], _, _ :: _, _, h => by simp at h
  | _ :: _, _, [], _, h => by simp at h
/-- A way turned is a way of the takers turned. -/
theorem turn_mem {e : Bool} {k m : List Nat} (hk : ∀ x ∈ k, 1 ≤ x) {n : Nat} {R : List (List Nat)} (h : R ∈ WW e k m) : R.drop n ++ R.take n ∈ WW e (k.drop n ++ k.take n) m := by
  obtain ⟨g1, g2, g3⟩ := (WW_mem k m hk R).1 h
  refine (WW_mem _ m (fun x hx => ?_) _).2 ⟨by simp only [List.length_append, List.length_drop, List.length_take, g1], fun r hr => g2 r ?_, fun j hj => ?_⟩
  · rcases List.mem_append.1 hx with hx | hx
    · exact hk x (List.mem_of_mem_drop hx)
    · exact hk x (List.mem_of_mem_take hx)
  · rcases List.mem_append.1 hr with hr | hr
    · exact List.mem_of_mem_drop hr
    · exact List.mem_of_mem_take hr
  · rw [sumR_app _ _ _ _ (by rw [List.length_drop, List.length_drop, g1]), Nat.add_comm, ← sumR_app _ _ _ _ (by rw [List.length_take, List.length_take, g1]), List.take_append_drop, List.take_append_drop]
    exact g3 j hj
theorem turn_len {e : Bool} {k m : List Nat} (hk : ∀ x ∈ k, 1 ≤ x) (n : Nat) (hn : n ≤ k.length) : (waysF m (k.drop n ++ k.take n) e).length = (waysF m k e).length := by
  have hk' : ∀ x ∈ k.drop n ++ k.take n, 1 ≤ x := fun x hx => by
    rcases List.mem_append.1 hx with hx | hx
    · exact hk x (List.mem_of_mem_drop hx)
    · exact hk x (List.mem_of_mem_take hx)
  rw [← ways_same hk, ← ways_same hk', List.length_map, List.length_map]
  have hp : ((WW e k m).map fun R => R.drop n ++ R.take n).Perm (WW e (k.drop n ++ k.take n) m) := by
    rw [List.perm_ext_iff_of_nodup]
    · intro S
      rw [List.mem_map]
      constructor
      · rintro ⟨R, hR, rfl⟩; exact turn_mem hk hR
      · intro hS
        have h1 := turn_mem hk' (n := k.length - n) hS
        have e1 : (k.drop n ++ k.take n).drop (k.length - n) ++ (k.drop n ++ k.take n).take (k.length - n) = k := by
          rw [show k.length - n = (k.drop n).length by rw [List.length_drop], List.drop_left, List.take_left, List.take_append_drop]
        rw [e1] at h1
        have hl : S.length = k.length := by rw [((WW_mem _ m hk' S).1 hS).1]; simp only [List.length_append, List.length_drop, List.length_take]; omega
        refine ⟨_, h1, ?_⟩
        have e2 : (S.drop (k.length - n)).length = n := by rw [List.length_drop]; omega
        rw [List.drop_left' e2, List.take_left' e2, List.take_append_drop]
    · refine map_nodup (WW_nodup hk) fun R hR R' hR' h => ?_
      have l1 := ((WW_mem k m hk R).1 hR).1
      have l2 := ((WW_mem k m hk R').1 hR').1
      have := List.append_inj h (by rw [List.length_drop, List.length_drop, l1, l2])
      rw [← List.take_append_drop n R, ← List.take_append_drop n R', this.1, this.2]
    · exact WW_nodup hk'
  rw [← hp.length_eq, List.length_map]
end Go.Proofs.YtdpdpjfnanjmgaaDoor
