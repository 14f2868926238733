/- Plain: masks, their sums, the masks that fit. -/
import Derived.Test.YteakakonjfcpmaaDoorPkF
namespace Go.Proofs.YteakakonjfcpmaaDoor
open Go.RowKit

/-- A column of the rows that are in, ahead of a place. -/
def colS (h : Nat → Bool) (rs : List (List Int)) (c : Nat) : Nat → Int
  | 0 => 0
  | j + 1 => colS h rs c j + if h j = true then (rs.getD j []).getD c 0 else 0
theorem colS_ext {h g : Nat → Bool} {rs : List (List Int)} {c : Nat} : ∀ j, (∀ i, i < j → h i = g i) → colS h rs c j = colS g rs c j
  | 0, _ => rfl
  | j + 1, he => by
    unfold colS
    rw [colS_ext j (fun i hi => he i (by omega)), he j (by omega)]
theorem colS_more {h g : Nat → Bool} {rs : List (List Int)} {c p : Nat} (hp : h p = false) (gp : g p = true) (he : ∀ i, i ≠ p → h i = g i) : ∀ j, colS g rs c j = colS h rs c j + if p < j then (rs.getD p []).getD c 0 else 0
  | 0 => by simp [colS]
  | j + 1 => by
    unfold colS
    rw [colS_more hp gp he j]
    by_cases hj : j = p
    · subst hj
      rw [hp, gp]
      simp
    · rw [he j hj]
      by_cases h1 : p < j
      · rw [if_pos h1, if_pos (show p < j + 1 by omega)]; omega
      · rw [if_neg h1, if_neg (show ¬ p < j + 1 by omega)]; omega
theorem colS_mono {h g : Nat → Bool} {rs : List (List Int)} {c : Nat} (hn : ∀ r ∈ rs, ∀ x ∈ r, 0 ≤ x) (hs : ∀ i, h i = true → g i = true) : ∀ j, colS h rs c j ≤ colS g rs c j
  | 0 => Int.le_refl _
  | j + 1 => by
    have ih := colS_mono (c := c) hn hs j
    have h0 : 0 ≤ (rs.getD j []).getD c 0 := by
      rw [List.getD_eq_getElem?_getD]
      cases hx : (rs.getD j [])[c]? with
      | none => exact Int.le_refl _
      | some x =>
        have hx' := List.mem_of_getElem? hx
        rw [List.getD_eq_getElem?_getD] at hx'
        cases hr : rs[j]? with
        | none => rw [hr] at hx'; simp at hx'
        | some r => rw [hr] at hx'; exact hn r (List.mem_of_getElem? hr) x hx'
    unfold colS
    by_cases hh : h j = true
    · rw [if_pos hh, if_pos (hs j hh)]; omega
    · rw [if_neg hh]
      split <;> omega
/-- The masks from one on, of which something is so. -/
def fromM (fit : Nat → Bool) (K M : Nat) : List Nat := (List.range' M (K - M)).filter fit
theorem fromM_end {fit : Nat → Bool} {K M : Nat} (h : K ≤ M) : fromM fit K M = [] := by
  unfold fromM
  rw [show K - M = 0 by omega]
  rfl
theorem fromM_step {fit : Nat → Bool} {K M : Nat} (h : M < K) : fromM fit K M = if fit M = true then M :: fromM fit K (M + 1) else fromM fit K (M + 1) := by
  unfold fromM
  rw [show K - M = (K - (M + 1)) + 1 by omega, List.range'_succ, List.filter_cons]
theorem fromM_skip {fit : Nat → Bool} {K M : Nat} : ∀ d, M + d ≤ K → (∀ i, i < d → fit (M + i) = false) → fromM fit K M = fromM fit K (M + d)
  | 0, _, _ => rfl
  | d + 1, h, hf => by
    rw [fromM_step (show M < K by omega), if_neg (by have := hf 0 (by omega); simpa using this), fromM_skip (M := M + 1) d (by omega) (fun i hi => by rw [show M + 1 + i = M + (i + 1) by omega]; exact hf (i + 1) (by omega))]
    congr 1
    omega
/-- One more bit, where there was none. -/
theorem bit_more {A p : Nat} (h : A.testBit p = false) (i : Nat) : (A + 2 ^ p).testBit i = if i = p then true else A.testBit i := by
  rw [Nat.add_comm]
  by_cases hi : i = p
  · subst hi
    rw [if_pos rfl, Nat.testBit_two_pow_add_eq, h]
    rfl
  rw [if_neg hi]
  by_cases hlt : i < p
  · exact Nat.testBit_two_pow_add_gt hlt A
  have hp := Nat.two_pow_pos p
  have e1 : A = 2 ^ p * (A / 2 ^ p) + A % 2 ^ p := (Nat.div_add_mod _ _).symm
  have hr : A % 2 ^ p < 2 ^ p := Nat.mod_lt _ hp
  have e2 : 2 ^ p + A = 2 ^ p * (A / 2 ^ p + 1) + A % 2 ^ p := by rw [Nat.mul_add, Nat.mul_one]; omega
  have hq : A / 2 ^ p % 2 = 0 := by
    rw [Nat.testBit_eq_decide_div_mod_eq] at h
    have := of_decide_eq_false h
    omega
  obtain ⟨d, hd⟩ : ∃ d, i - p = d + 1 := ⟨i - p - 1, by omega⟩
  rw [e2, Nat.testBit_two_pow_mul_add _ hr, if_neg hlt, hd, Nat.testBit_succ]
  conv => rhs; rw [e1, Nat.testBit_two_pow_mul_add _ hr, if_neg hlt, hd, Nat.testBit_succ]
  congr 1
  omega
theorem xor_more {A p : Nat} (h : A.testBit p = false) : A ^^^ 2 ^ p = A + 2 ^ p := by
  refine Nat.eq_of_testBit_eq fun i => ?_
  rw [bit_more h, Nat.testBit_xor, Nat.testBit_two_pow]
  by_cases hi : i = p
  · subst hi; simp [h]
  · rw [if_neg hi, decide_eq_false (fun e => hi e.symm)]; simp
theorem bit_le {A p : Nat} (h : A.testBit p = true) : 2 ^ p ≤ A := Nat.ge_two_pow_of_testBit h
theorem bit_less {A p : Nat} (h : A.testBit p = true) : (A - 2 ^ p).testBit p = false := by
  have e1 := Nat.testBit_two_pow_add_eq (A - 2 ^ p) p
  rw [show 2 ^ p + (A - 2 ^ p) = A by have := bit_le h; omega, h] at e1
  cases hb : (A - 2 ^ p).testBit p with
  | false => rfl
  | true => rw [hb] at e1; cases e1
theorem xor_less {A p : Nat} (h : A.testBit p = true) : A ^^^ 2 ^ p = A - 2 ^ p := by
  have e1 := xor_more (bit_less h)
  rw [show A - 2 ^ p + 2 ^ p = A by have := bit_le h; omega] at e1
  rw [← e1, Nat.xor_assoc, Nat.xor_self, Nat.xor_zero]
  omega
theorem odd_part {M p : Nat} (h0 : M % 2 ^ p = 0) (h1 : M.testBit p = true) : ∃ q, M = 2 ^ p * (2 * q + 1) := by
  refine ⟨M / 2 ^ p / 2, ?_⟩
  rw [Nat.testBit_eq_decide_div_mod_eq] at h1
  have h2 := of_decide_eq_true h1
  have h3 := Nat.div_add_mod M (2 ^ p)
  rw [h0, Nat.add_zero] at h3
  rw [show 2 * (M / 2 ^ p / 2) + 1 = M / 2 ^ p by omega]
  exact h3.symm
/-- The lowest bit alone. -/
theorem low_bit {M p n : Nat} (h0 : M % 2 ^ p = 0) (h1 : M.testBit p = true) (hn : M < 2 ^ n) : M &&& (2 ^ n - M) = 2 ^ p := by
  obtain ⟨q, hq⟩ := odd_part h0 h1
  have hp := Nat.two_pow_pos p
  have hM : 0 < M := by have := bit_le h1; omega
  have e1 : 2 ^ n - M = 2 ^ n - (M - 1 + 1) := by congr 1; omega
  have e2 : M - 1 = 2 ^ p * (2 * q) + (2 ^ p - 1) := by rw [hq, Nat.mul_add]; omega
  refine Nat.eq_of_testBit_eq fun i => ?_
  rw [e1, Nat.testBit_and, Nat.testBit_two_pow_sub_succ (by omega), Nat.testBit_two_pow, e2, Nat.testBit_two_pow_mul_add _ (by omega)]
  have e3 : M.testBit i = if i < p then false else (2 * q + 1).testBit (i - p) := by
    conv => lhs; rw [hq]
    rw [Nat.testBit_two_pow_mul]
    by_cases hi : i < p
    · rw [if_pos hi, decide_eq_false (by omega)]; rfl
    · rw [if_neg hi, decide_eq_true (by omega)]; rfl
  rw [e3]
  by_cases hi : i < p
  · rw [if_pos hi, show decide (p = i) = false from decide_eq_false (by omega)]; rfl
  rw [if_neg hi, if_neg hi]
  by_cases hip : p = i
  · subst hip
    have hpn : p < n := Nat.lt_of_not_le fun hle => by
      have h9 : 2 ^ n ≤ 2 ^ p := Nat.pow_le_pow_right (by omega) hle
      have := bit_le h1
      omega
    rw [decide_eq_true (rfl : p = p), decide_eq_true hpn, Nat.sub_self]
    simp
  · obtain ⟨d, hd⟩ : ∃ d, i - p = d + 1 := ⟨i - p - 1, by omega⟩
    rw [decide_eq_false hip, hd, Nat.testBit_succ, Nat.testBit_succ, show (2 * q + 1) / 2 = q by omega, show (2 * q) / 2 = q by omega]
    cases q.testBit d <;> simp
theorem low_there {M : Nat} (hM : M ≠ 0) : ∃ p, M % 2 ^ p = 0 ∧ M.testBit p = true := by
  induction M using Nat.strongRecOn with
  | _ M ih =>
    by_cases h2 : M % 2 = 1
    · exact ⟨0, by omega, by rw [Nat.testBit_zero]; simpa using h2⟩
    · obtain ⟨p, h3, h4⟩ := ih (M / 2) (by omega) (by omega)
      refine ⟨p + 1, ?_, by rw [Nat.testBit_succ]; exact h4⟩
      rw [Nat.pow_succ, Nat.mul_comm, Nat.mod_mul, h3]
      omega
/-- What lies between a number and the one that is greater by its lowest bit has all its bits. -/
theorem low_all {M p d : Nat} (h0 : M % 2 ^ p = 0) (hd : d < 2 ^ p) {i : Nat} (hi : M.testBit i = true) : (M + d).testBit i = true := by
  have h3 := Nat.div_add_mod M (2 ^ p)
  rw [h0, Nat.add_zero] at h3
  rw [← h3, Nat.testBit_two_pow_mul] at hi
  rw [← h3, Nat.testBit_two_pow_mul_add _ hd]
  simp at hi
  rw [if_neg (by omega)]
  exact hi.2

theorem hasB_bit (M i : Nat) (h : M < 4294967296) : hasB (M : Int) i = M.testBit i := by
  have h2 : ((M : Int) / 2 ^ min i 32) = ((M / 2 ^ min i 32 : Nat) : Int) := by simp
  have h3 : M / 2 ^ min i 32 < 4294967296 := Nat.lt_of_le_of_lt (Nat.div_le_self _ _) (by omega)
  unfold hasB
  rw [h2]
  have h4 := u32_and_nat (M / 2 ^ min i 32) 1 h3 (by omega)
  rw [show ((1 : Nat) : Int) = 1 from rfl] at h4
  rw [h4, Nat.and_one_is_mod, Nat.testBit_eq_decide_div_mod_eq]
  by_cases hi : i < 32
  · rw [Nat.min_eq_left (by omega)]
    rcases Nat.mod_two_eq_zero_or_one (M / 2 ^ i) with h | h <;> rw [h] <;> rfl
  · rw [Nat.min_eq_right (by omega)]
    have e1 : M / 2 ^ 32 = 0 := Nat.div_eq_of_lt (by omega)
    have e2 : M / 2 ^ i = 0 := Nat.div_eq_of_lt (Nat.lt_of_lt_of_le h (by
      have := Nat.pow_le_pow_right (n := 2) (by omega) (show 32 ≤ i by omega)
      omega))
    rw [e1, e2]
    rfl
theorem sumTo_col {m : Int} {rs : List (List Int)} {n : Nat} (h : RowsOk rs n) (c : Nat) (hc : c < n) : ∀ j, j ≤ rs.length → (sumTo m rs n j).getD c 0 = colS (hasB m) rs c j
  | 0, _ => by simp [sumTo, colS, List.getD_eq_getElem?_getD, hc]
  | j + 1, hj => by
    have ih := sumTo_col (m := m) h c hc j (by omega)
    have hl := (sumTo_ok (m := m) h j (by omega)).1
    have hr : rs.getD j [] ∈ rs := by rw [List.getD_eq_getElem?_getD, List.getElem?_eq_getElem (by omega)]; exact List.getElem_mem _
    have hlr := h.len _ hr
    unfold sumTo colS
    by_cases hb : hasB m j = true
    · rw [if_pos hb, if_pos hb, ← ih]
      simp only [List.getD_eq_getElem?_getD] at hlr ⊢
      rw [List.getElem?_zipWith, List.getElem?_eq_getElem (show c < (sumTo m rs n j).length by omega), List.getElem?_eq_getElem (show c < (rs[j]?.getD []).length by omega)]
      simp
    · rw [if_neg hb, if_neg hb, ih]
      omega
/-- The sum of a mask's rows. -/
def sumN (rs : List (List Int)) (n : Nat) (M : Nat) : List Int := sumTo (M : Int) rs n rs.length
theorem sumN_len {rs : List (List Int)} {n M : Nat} (h : RowsOk rs n) : (sumN rs n M).length = n := (sumTo_ok h _ (Nat.le_refl _)).1
theorem sumN_bd {rs : List (List Int)} {n M : Nat} (h : RowsOk rs n) : ∀ x ∈ sumN rs n M, 0 ≤ x ∧ x ≤ 16777216 := fun x hx => by
  have h1 := (sumTo_ok h _ (Nat.le_refl _)).2 x hx
  have h2 := h.few
  omega
theorem sumN_col {rs : List (List Int)} {n M c : Nat} (h : RowsOk rs n) (hc : c < n) (hM : M < 4294967296) : (sumN rs n M).getD c 0 = colS (fun i => M.testBit i) rs c rs.length := by
  unfold sumN
  rw [sumTo_col h c hc _ (Nat.le_refl _)]
  exact colS_ext _ (fun i _ => hasB_bit M i hM)
theorem sumN_zero {rs : List (List Int)} {n : Nat} : sumN rs n 0 = List.replicate n 0 := by
  have hz : ∀ j, sumTo ((0 : Nat) : Int) rs n j = List.replicate n 0 := fun j => by
    induction j with
    | zero => rfl
    | succ j ih =>
      unfold sumTo
      rw [hasB_bit 0 j (by omega), if_neg (by simp), ih]
  exact hz _
theorem get_d {l : List Int} {c : Nat} (h : c < l.length) : l.getD c 0 = l[c] := by rw [List.getD_eq_getElem?_getD, List.getElem?_eq_getElem h]; rfl
theorem sum_up {rs : List (List Int)} {n A p : Nat} (h : RowsOk rs n) (hA : A.testBit p = false) (hp : p < rs.length) (hb : A + 2 ^ p < 4294967296) : List.zipWith (fun a b => a + 1 * b) (sumN rs n A) rs[p] = sumN rs n (A + 2 ^ p) := by
  have hl := sumN_len (M := A) h
  have hl2 := sumN_len (M := A + 2 ^ p) h
  have hlr := h.len rs[p] (List.getElem_mem hp)
  have hpp := Nat.two_pow_pos p
  have hAb : A < 4294967296 := Nat.lt_of_le_of_lt (Nat.le_add_right _ _) hb
  refine List.ext_getElem (by rw [List.length_zipWith, hl2, hl, hlr, Nat.min_self]) (fun c h1 h2 => ?_)
  rw [hl2] at h2
  rw [List.getElem_zipWith, ← get_d, ← get_d, ← get_d, sumN_col h h2 hAb, sumN_col h h2 hb, colS_more (h := fun i => A.testBit i) (g := fun i => (A + 2 ^ p).testBit i) (p := p) hA (by simp only [bit_more hA]; simp) (fun i hi => by simp only [bit_more hA, if_neg hi]), if_pos hp]
  rw [List.getD_eq_getElem?_getD (l := rs), List.getElem?_eq_getElem hp]
  simp
theorem sum_dn {rs : List (List Int)} {n A p : Nat} (h : RowsOk rs n) (hA : A.testBit p = true) (hp : p < rs.length) (hb : A < 4294967296) : List.zipWith (fun a b => a + -1 * b) (sumN rs n A) rs[p] = sumN rs n (A - 2 ^ p) := by
  have hle := bit_le hA
  have h2 := sum_up (n := n) h (bit_less hA) hp (by omega)
  rw [show A - 2 ^ p + 2 ^ p = A by omega] at h2
  rw [← h2]
  have hl := sumN_len (M := A - 2 ^ p) h
  have hlr := h.len rs[p] (List.getElem_mem hp)
  refine List.ext_getElem (by simp only [List.length_zipWith]; omega) (fun c h1 h3 => ?_)
  simp only [List.getElem_zipWith]
  omega
/-- Is a column's sum too much already? -/
def tooM (ws ss : List Int) : Bool := (ws.zip ss).any fun p => (p.1 == 2) && decide (1 < p.2)
theorem too_off {rs : List (List Int)} {ws : List Int} {M M' : Nat} (h : RowsOk rs ws.length) (hM : M < 4294967296) (hM' : M' < 4294967296) (ht : tooM ws (sumN rs ws.length M) = true) (hs : ∀ i, M.testBit i = true → M'.testBit i = true) : fitW ws (sumN rs ws.length M') = false := by
  obtain ⟨p, hp, hq⟩ := List.any_eq_true.1 ht
  obtain ⟨c, hc, hpe⟩ := List.getElem_of_mem hp
  rw [List.length_zip, sumN_len h] at hc
  rw [List.getElem_zip] at hpe
  subst hpe
  simp only [Bool.and_eq_true, beq_iff_eq, decide_eq_true_eq] at hq
  have hcw : c < ws.length := by omega
  have e1 := sumN_col h hcw hM
  have e2 := sumN_col h hcw hM'
  rw [get_d (by rw [sumN_len h]; exact hcw)] at e1 e2
  have hm := colS_mono (h := fun i => M.testBit i) (g := fun i => M'.testBit i) (c := c) (fun r hr x hx => (h.nums r hr x hx).1) hs rs.length
  unfold fitW
  rw [List.any_eq_true.2 ⟨(ws[c], (sumN rs ws.length M')[c]'(by rw [sumN_len h]; exact hcw)), ?_, ?_⟩]
  · rfl
  · rw [List.mem_iff_getElem]
    exact ⟨c, by rw [List.length_zip, sumN_len h]; omega, by rw [List.getElem_zip]⟩
  · show offW ws[c] _ = true
    unfold offW
    rw [hq.1]
    have h5 : 1 < (sumN rs ws.length M')[c]'(by rw [sumN_len h]; exact hcw) := by have := hq.2; omega
    simp
    omega
/-- Does a mask fit? -/
def fitN (rs : List (List Int)) (ws : List Int) (M : Nat) : Bool := fitW ws (sumN rs ws.length M)
/-- The masks that fit, rising. -/
def fitL (rs : List (List Int)) (ws : List Int) : List Nat := fromM (fitN rs ws) (2 ^ rs.length) 0
theorem too_zero {rs : List (List Int)} {ws : List Int} : tooM ws (sumN rs ws.length 0) = false := by
  rw [sumN_zero]
  unfold tooM
  rw [Bool.eq_false_iff]
  intro ht
  obtain ⟨⟨a, b⟩, hp, hq⟩ := List.any_eq_true.1 ht
  have := List.eq_of_mem_replicate (List.of_mem_zip hp).2
  simp only [Bool.and_eq_true, decide_eq_true_eq] at hq
  omega
/-- Where the search goes on behind a mask. -/
theorem next_skip {rs : List (List Int)} {ws : List Int} {M p : Nat} (h : RowsOk rs ws.length) (hM : M < 2 ^ rs.length) (hp : (p = 0) ∨ (tooM ws (sumN rs ws.length M) = true ∧ M % 2 ^ p = 0 ∧ M.testBit p = true)) :
    fromM (fitN rs ws) (2 ^ rs.length) (M + 1) = fromM (fitN rs ws) (2 ^ rs.length) (M + 2 ^ p) := by
  rcases hp with rfl | ⟨ht, h0, h1⟩
  · rfl
  have hk : 2 ^ rs.length ≤ 2 ^ 16 := Nat.pow_le_pow_right (by omega) h.few
  have hpp := Nat.two_pow_pos p
  have hpk : p < rs.length := Nat.lt_of_not_le fun hle => by
    have h9 : 2 ^ rs.length ≤ 2 ^ p := Nat.pow_le_pow_right (by omega) hle
    have := bit_le h1
    omega
  have hle : M + 2 ^ p ≤ 2 ^ rs.length := by
    have h3 := Nat.div_add_mod M (2 ^ p)
    rw [h0, Nat.add_zero] at h3
    have h4 : 2 ^ rs.length = 2 ^ p * 2 ^ (rs.length - p) := by rw [← Nat.pow_add]; congr 1; omega
    rw [← h3, h4] at hM ⊢
    have h5 := Nat.lt_of_mul_lt_mul_left hM
    have h6 : 2 ^ p * (M / 2 ^ p + 1) ≤ 2 ^ p * 2 ^ (rs.length - p) := Nat.mul_le_mul_left _ h5
    rw [Nat.mul_add, Nat.mul_one] at h6
    exact h6
  have := fromM_skip (fit := fitN rs ws) (K := 2 ^ rs.length) (M := M + 1) (2 ^ p - 1) (by omega) (fun i hi => too_off h (by omega) (by omega) ht (fun j hj => by rw [show M + 1 + i = M + (1 + i) by omega]; exact low_all h0 (by omega) hj))
  rw [this]
  congr 1
  omega
end Go.Proofs.YteakakonjfcpmaaDoor
