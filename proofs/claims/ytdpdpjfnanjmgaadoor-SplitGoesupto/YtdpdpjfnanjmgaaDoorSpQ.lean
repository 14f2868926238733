/- Splits, plainly: what is passed over leads nowhere. -/
import Derived.Test.YtdpdpjfnanjmgaaDoorSpP
namespace Go.Proofs.YtdpdpjfnanjmgaaDoor

theorem or_lt32 {x y : Nat} (h : x < 32) (g : y < 32) : x ||| y < 32 := Nat.or_lt_two_pow (n := 5) h g
theorem bit_lt32 {a s : Nat} (ha : a < 2 ^ 32) (h : a.testBit s = true) : s < 32 := Nat.lt_of_not_le fun hle => by
  have := Nat.testBit_lt_two_pow (Nat.lt_of_lt_of_le ha (Nat.pow_le_pow_right (by omega) hle))
  rw [this] at h; cases h
/-- The unions of each set of the one family and each of the other. -/
def joinN (a b : Nat) : Nat := (List.range 32).foldl (fun u s => if (List.range 32).any (fun x => (List.range 32).any fun y => a.testBit x && b.testBit y && s == x ||| y) then u ||| 2 ^ s else u) 0
theorem fold_bit (q : Nat → Bool) (s : Nat) : ∀ n u, ((List.range n).foldl (fun u s => if q s then u ||| 2 ^ s else u) u).testBit s = (u.testBit s || (decide (s < n) && q s))
  | 0, u => by simp
  | n + 1, u => by
    rw [List.range_succ, List.foldl_append, List.foldl_cons, List.foldl_nil]
    split
    · rename_i h
      rw [Nat.testBit_or, fold_bit q s n u, Nat.testBit_two_pow]
      by_cases e : n = s
      · subst e; simp [h]
      · by_cases l : s < n
        · simp [l, show s < n + 1 by omega, e]
        · simp [l, show ¬ s < n + 1 by omega, e]
    · rename_i h
      rw [fold_bit q s n u]
      by_cases e : n = s
      · subst e; simp [h]
      · by_cases l : s < n
        · simp [l, show s < n + 1 by omega]
        · simp [l, show ¬ s < n + 1 by omega]
theorem join_bit {a b : Nat} (ha : a < 2 ^ 32) (hb : b < 2 ^ 32) (s : Nat) : (joinN a b).testBit s = true ↔ ∃ x y, a.testBit x = true ∧ b.testBit y = true ∧ s = x ||| y := by
  unfold joinN
  rw [fold_bit]
  simp only [Nat.zero_testBit, Bool.false_or, Bool.and_eq_true, decide_eq_true_eq, List.any_eq_true, List.mem_range, beq_iff_eq]
  constructor
  · rintro ⟨_, x, _, y, _, ⟨h1, h2⟩, h3⟩
    exact ⟨x, y, h1, h2, h3⟩
  · rintro ⟨x, y, h1, h2, h3⟩
    have hx := bit_lt32 ha h1
    have hy := bit_lt32 hb h2
    exact ⟨h3 ▸ or_lt32 hx hy, x, hx, y, hy, ⟨h1, h2⟩, h3⟩
theorem lt_of_bits {a n : Nat} (h : ∀ s, a.testBit s = true → s < n) : a < 2 ^ n := Nat.lt_pow_two_of_testBit a fun i hi => by
  cases e : a.testBit i with
  | false => rfl
  | true => have := h i e; omega
theorem join_lt {a b : Nat} (ha : a < 2 ^ 32) (hb : b < 2 ^ 32) : joinN a b < 2 ^ 32 := lt_of_bits fun s hs => by
  obtain ⟨x, y, h1, h2, rfl⟩ := (join_bit ha hb s).1 hs
  exact or_lt32 (bit_lt32 ha h1) (bit_lt32 hb h2)
theorem join_one {a : Nat} (ha : a < 2 ^ 32) : joinN a 1 = a := Nat.eq_of_testBit_eq fun s => by
  rw [Bool.eq_iff_iff, join_bit ha (by decide)]
  constructor
  · rintro ⟨x, y, h1, h2, rfl⟩
    rw [show (1 : Nat) = 2 ^ 0 from rfl, Nat.testBit_two_pow] at h2
    have h3 : 0 = y := of_decide_eq_true h2
    subst h3
    rwa [Nat.or_zero]
  · intro h
    exact ⟨s, 0, h, rfl, by simp⟩
theorem join_zero {a : Nat} (ha : a < 2 ^ 32) : joinN a 0 = 0 := Nat.eq_of_testBit_eq fun s => by
  rw [Bool.eq_iff_iff, join_bit ha (by decide)]
  simp

/-- Whose turn it is of a kind. -/
def turnN (K p κ : Nat) : Nat := (p + K - 1 - κ) / K
/-- Who can get something yet, by the first kinds. -/
def abN (f : Nat → Nat → Nat) (K p : Nat) (left : List Nat) (has : Nat) : Nat → Nat
  | 0 => 2 ^ has
  | κ + 1 => joinN (abN f K p left has κ) (f (turnN K p κ) (left.getD κ 0))
/-- The table's laws. -/
structure Sv (k : List Nat) (f : Nat → Nat → Nat) : Prop where
  lt : ∀ i n, i ≤ k.length → n ≤ 6 → f i n < 2 ^ 32
  one : f k.length 0 = 1
  none : ∀ n, n ≤ 6 → n ≠ 0 → f k.length n = 0
  pass : ∀ i n, i < k.length → n ≤ 6 → ∀ s, (f (i + 1) n).testBit s = true → (f i n).testBit s = true
  give : ∀ i n, i < k.length → n ≤ 6 → ∀ r, 1 ≤ r → r * k.getD i 0 ≤ n → ∀ s, (f (i + 1) (n - r * k.getD i 0)).testBit s = true → (f i n).testBit (s ||| 2 ^ i) = true
/-- Who has something of a kind. -/
def hasK (K κ : Nat) : Nat → List Nat → Nat
  | _, [] => 0
  | p, n :: v => (if p % K = κ ∧ 0 < n then 2 ^ (p / K) else 0) ||| hasK K κ (p + 1) v
theorem turn_end {K T κ : Nat} (hκ : κ < K) : turnN K (K * T) κ = T := by
  unfold turnN
  rw [show K * T + K - 1 - κ = (K - 1 - κ) + K * T by omega, Nat.add_mul_div_left _ _ (by omega), Nat.div_eq_of_lt (by omega)]
  omega
theorem turn_at {K p κ : Nat} (hκ : κ < K) (h : p % K = κ) : turnN K p κ = p / K ∧ turnN K (p + 1) κ = p / K + 1 := by
  have hd := Nat.div_add_mod p K
  obtain ⟨q, hq⟩ : ∃ q, p / K = q := ⟨_, rfl⟩
  rw [hq] at hd ⊢
  unfold turnN
  constructor
  · rw [show p + K - 1 - κ = (K - 1) + K * q by omega, Nat.add_mul_div_left _ _ (by omega), Nat.div_eq_of_lt (by omega)]
    omega
  · rw [show p + 1 + K - 1 - κ = 0 + K * (q + 1) by rw [Nat.mul_add]; omega, Nat.add_mul_div_left _ _ (by omega), Nat.div_eq_of_lt (by omega)]
    omega
theorem turn_else {K p κ : Nat} (hκ : κ < K) (h : p % K ≠ κ) : turnN K (p + 1) κ = turnN K p κ := by
  have hd := Nat.div_add_mod p K
  have hm := Nat.mod_lt p (show 0 < K by omega)
  obtain ⟨q, hq⟩ : ∃ q, p / K = q := ⟨_, rfl⟩
  obtain ⟨ρ, hρ⟩ : ∃ ρ, p % K = ρ := ⟨_, rfl⟩
  rw [hq, hρ] at hd
  rw [hρ] at hm h
  unfold turnN
  by_cases hlt : ρ < κ
  · rw [show p + 1 + K - 1 - κ = (ρ + K - κ) + K * q by omega, show p + K - 1 - κ = (ρ + K - 1 - κ) + K * q by omega, Nat.add_mul_div_left _ _ (by omega), Nat.add_mul_div_left _ _ (by omega), Nat.div_eq_of_lt (by omega), Nat.div_eq_of_lt (by omega)]
  · rw [show p + 1 + K - 1 - κ = (ρ - κ) + K * (q + 1) by rw [Nat.mul_add]; omega, show p + K - 1 - κ = (ρ - 1 - κ) + K * (q + 1) by rw [Nat.mul_add]; omega, Nat.add_mul_div_left _ _ (by omega), Nat.add_mul_div_left _ _ (by omega), Nat.div_eq_of_lt (by omega), Nat.div_eq_of_lt (by omega)]
theorem turn_le {K T p κ : Nat} (hκ : κ < K) (hp : p ≤ K * T) : turnN K p κ ≤ T := by
  unfold turnN
  rw [← Nat.lt_succ_iff, Nat.div_lt_iff_lt_mul (by omega), Nat.succ_mul, Nat.mul_comm T K]
  omega
theorem kind_bit {K κ : Nat} {k : List Nat} {f : Nat → Nat → Nat} (hκ : κ < K) (hf : Sv k f) : ∀ (v : List Nat) (p : Nat), p + v.length = K * k.length → sumOf K k κ p v ≤ 6 → (f (turnN K p κ) (sumOf K k κ p v)).testBit (hasK K κ p v) = true
  | [], p, hp, _ => by
    have : p = K * k.length := by simpa using hp
    subst this
    rw [turn_end hκ]
    show (f k.length 0).testBit 0 = true
    rw [hf.one]; rfl
  | n :: v, p, hp, hs => by
    rw [List.length_cons] at hp
    have hpK : p < K * k.length := by omega
    have hi : p / K < k.length := (Nat.div_lt_iff_lt_mul (by omega)).2 (by rw [Nat.mul_comm]; exact hpK)
    unfold sumOf hasK
    unfold sumOf at hs
    by_cases e : p % K = κ
    · rw [if_pos e] at hs ⊢
      obtain ⟨t1, t2⟩ := turn_at hκ e
      rw [t1]
      have ih := kind_bit hκ hf v (p + 1) (by omega) (by omega)
      rw [t2] at ih
      by_cases hn : 0 < n
      · rw [if_pos ⟨e, hn⟩, Nat.or_comm]
        refine hf.give _ _ hi hs n hn (by omega) _ ?_
        rw [Nat.add_sub_cancel_left]
        exact ih
      · have : n = 0 := by omega
        subst this
        rw [if_neg (by omega), Nat.zero_or]
        rw [Nat.zero_mul, Nat.zero_add]
        exact hf.pass _ _ hi (by omega) _ ih
    · rw [if_neg e, Nat.zero_add] at hs ⊢
      rw [if_neg (fun h => e h.1), Nat.zero_or, ← turn_else hκ e]
      exact kind_bit hκ hf v (p + 1) (by omega) hs
/-- All kinds. -/
def orK (K p : Nat) (v : List Nat) : Nat → Nat
  | 0 => 0
  | κ + 1 => orK K p v κ ||| hasK K κ p v
theorem orK_nil (K p : Nat) : ∀ n, orK K p [] n = 0
  | 0 => rfl
  | n + 1 => by rw [orK, orK_nil K p n, hasK]; rfl
theorem orK_cons (K p x : Nat) (v : List Nat) : ∀ n, orK K p (x :: v) n = (if p % K < n ∧ 0 < x then 2 ^ (p / K) else 0) ||| orK K (p + 1) v n
  | 0 => by simp [orK]
  | n + 1 => by
    rw [orK, orK, orK_cons K p x v n, hasK]
    by_cases hx : 0 < x
    · by_cases e : p % K = n
      · rw [if_neg (by omega), if_pos ⟨e, hx⟩, if_pos ⟨by omega, hx⟩, Nat.zero_or, ← Nat.or_assoc, ← Nat.or_assoc, Nat.or_comm (orK K (p + 1) v n)]
      · rw [if_neg (c := p % K = n ∧ 0 < x) (fun h => e h.1), Nat.zero_or]
        by_cases hl : p % K < n
        · rw [if_pos (c := p % K < n ∧ 0 < x) ⟨hl, hx⟩, if_pos ⟨by omega, hx⟩, Nat.or_assoc]
        · rw [if_neg (c := p % K < n ∧ 0 < x) (by omega), if_neg (by omega), Nat.zero_or, Nat.zero_or]
    · rw [if_neg (by omega), if_neg (by omega), if_neg (by omega)]
      simp
theorem orK_has {K : Nat} (hK : 0 < K) : ∀ (v : List Nat) (p : Nat), orK K p v K = hasOf K p v
  | [], p => by rw [orK_nil]; rfl
  | x :: v, p => by
    rw [orK_cons, hasOf, orK_has hK v (p + 1)]
    congr 1
    have := Nat.mod_lt p hK
    by_cases hx : 0 < x
    · rw [if_pos ⟨this, hx⟩, if_pos hx]
    · rw [if_neg (by omega), if_neg hx]
theorem has_lt {T : Nat} (hT : T ≤ 5) {K κ : Nat} (hκ : κ < K) : ∀ (v : List Nat) (p : Nat), p + v.length = K * T → hasK K κ p v < 32
  | [], _, _ => by unfold hasK; omega
  | n :: v, p, hp => by
    rw [List.length_cons] at hp
    unfold hasK
    refine or_lt32 ?_ (has_lt hT hκ v (p + 1) (by omega))
    split
    · have : p / K < T := (Nat.div_lt_iff_lt_mul (by omega)).2 (by rw [Nat.mul_comm]; omega)
      exact Nat.lt_of_lt_of_le (Nat.pow_lt_pow_right (by omega) (show p / K < 5 by omega)) (by decide)
    · omega
theorem ab_lt {K p : Nat} {k left : List Nat} {f : Nat → Nat → Nat} {has : Nat} (hf : Sv k f) (hp : p ≤ K * k.length) (h6 : ∀ j < K, left.getD j 0 ≤ 6) (hh : has < 32) : ∀ n, n ≤ K → abN f K p left has n < 2 ^ 32
  | 0, _ => Nat.pow_lt_pow_right (by omega) hh
  | n + 1, hn => join_lt (ab_lt hf hp h6 hh n (by omega)) (hf.lt _ _ (turn_le (by omega) hp) (h6 n (by omega)))
theorem ab_bit {K p : Nat} {k left : List Nat} {f : Nat → Nat → Nat} {has : Nat} {v : List Nat} (hf : Sv k f) (hp : p + v.length = K * k.length) (h6 : ∀ j < K, left.getD j 0 ≤ 6) (hh : has < 32) (hs : ∀ j < K, sumOf K k j p v = left.getD j 0) :
    ∀ n, n ≤ K → (abN f K p left has n).testBit (has ||| orK K p v n) = true
  | 0, _ => by simp [abN, orK]
  | n + 1, hn => by
    have hb := kind_bit (κ := n) (by omega) hf v p hp (by rw [hs n (by omega)]; exact h6 n (by omega))
    rw [hs n (by omega)] at hb
    refine (join_bit (ab_lt hf (by omega) h6 hh n (by omega)) (hf.lt _ _ (turn_le (by omega) (by omega)) (h6 n (by omega))) _).2 ⟨_, _, ab_bit hf hp h6 hh hs n (by omega), hb, ?_⟩
    rw [orK, Nat.or_assoc]
/-- What is passed over leads nowhere. -/
theorem unable_none {K : Nat} {k left : List Nat} {f : Nat → Nat → Nat} {r p has : Nat} (hk : ∀ i < k.length, 1 ≤ k.getD i 0) (hf : Sv k f) (hp : p + r = K * k.length) (hl : left.length = K) (h6 : ∀ j < K, left.getD j 0 ≤ 6) (hh : has < 32)
    (h : (abN f K p left has K).testBit (allB k.length) = false) : LL K k (allB k.length) r p left has = [] := by
  rw [List.eq_nil_iff_forall_not_mem]
  intro v hv
  obtain ⟨g1, g2, g3⟩ := (LL_mem hk r p left has hp hl v).1 hv
  have hb := ab_bit hf (by omega) h6 hh g2 K (Nat.le_refl _)
  rcases Nat.eq_zero_or_pos K with h0 | hK
  · subst h0
    have : v = [] := List.length_eq_zero_iff.1 (by rw [g1]; simpa using Nat.le_zero.1 (by rw [Nat.zero_mul] at hp; omega))
    subst this
    have e : has ||| orK 0 p [] 0 = allB k.length := by rw [← g3]; rfl
    rw [e, h] at hb
    cases hb
  · rw [orK_has hK, g3, h] at hb
    cases hb
theorem ab_end {K T : Nat} {k left : List Nat} {f : Nat → Nat → Nat} {has : Nat} (hT : k.length = T) (hf : Sv k f) (h6 : ∀ j < K, left.getD j 0 ≤ 6) (hh : has < 32) : ∀ n, n ≤ K → abN f K (K * T) left has n = if (∀ j < n, left.getD j 0 = 0) then 2 ^ has else 0
  | 0, _ => by rw [if_pos (fun j h => absurd h (by omega))]; rfl
  | n + 1, hn => by
    rw [abN, ab_end hT hf h6 hh n (by omega), turn_end (by omega)]
    have h32 : 2 ^ has < 2 ^ 32 := Nat.pow_lt_pow_right (by omega) hh
    by_cases h1 : ∀ j < n, left.getD j 0 = 0
    · rw [if_pos h1]
      by_cases h2 : left.getD n 0 = 0
      · rw [h2, ← hT, hf.one, join_one h32, if_pos]
        intro j hj
        rcases Nat.lt_succ_iff_lt_or_eq.1 hj with h | h
        · exact h1 j h
        · rw [h]; exact h2
      · rw [← hT, hf.none _ (h6 n (by omega)) h2, join_zero h32, if_neg]
        intro h; exact h2 (h n (by omega))
    · rw [if_neg h1, if_neg (fun h => h1 fun j hj => h j (by omega))]
      have := hf.lt k.length (left.getD n 0) (Nat.le_refl _) (h6 n (by omega))
      rw [← hT]
      refine Nat.eq_of_testBit_eq fun s => ?_
      rw [Bool.eq_iff_iff, join_bit (by decide) this]
      simp
/-- At the end it is a way. -/
theorem able_end {K : Nat} {k left : List Nat} {f : Nat → Nat → Nat} {has : Nat} (hf : Sv k f) (hl : left.length = K) (h6 : ∀ j < K, left.getD j 0 ≤ 6) (hh : has < 32)
    (h : (abN f K (K * k.length) left has K).testBit (allB k.length) = true) : LL K k (allB k.length) 0 (K * k.length) left has = [[]] := by
  rw [ab_end rfl hf h6 hh K (Nat.le_refl _)] at h
  split at h
  · rename_i h1
    rw [Nat.testBit_two_pow] at h
    unfold LL
    rw [if_pos]
    rw [Bool.and_eq_true]
    exact ⟨all0.2 fun j hj => h1 j (by omega), by simpa using h⟩
  · simp at h
end Go.Proofs.YtdpdpjfnanjmgaaDoor
