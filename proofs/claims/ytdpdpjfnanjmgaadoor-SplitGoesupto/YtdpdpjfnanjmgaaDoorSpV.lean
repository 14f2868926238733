/- Splits, plainly: the table of who can be served. -/
import Derived.Test.YtdpdpjfnanjmgaaDoorSpR
namespace Go.Proofs.YtdpdpjfnanjmgaaDoor

/-- One more bit, where there was none. -/
theorem bit_more {A p : Nat} (h : A.testBit p = false) (i : Nat) : (A + 2 ^ p).testBit i = if i = p then true else A.testBit i := by
  rw [Nat.add_comm]
  by_cases hi : i = p
  · subst hi
    rw [if_pos rfl, Nat.testBit_two_pow_add_eq, h]
    rfl
  rw [if_neg hi]
  by_cases hlt : i < p
  · exact Nat.testBit_two_pow_add_gt hlt A
  have hp := Nat.two_pow_pos p
  have e1 : A = 2 ^ p * (A / 2 ^ p) + A % 2 ^ p := (Nat.div_add_mod _ _).symm
  have hr : A % 2 ^ p < 2 ^ p := Nat.mod_lt _ hp
  have e2 : 2 ^ p + A = 2 ^ p * (A / 2 ^ p + 1) + A % 2 ^ p := by rw [Nat.mul_add, Nat.mul_one]; omega
  have hq : A / 2 ^ p % 2 = 0 := by
    rw [Nat.testBit_eq_decide_div_mod_eq] at h
    have := of_decide_eq_false h
    omega
  obtain ⟨d, hd⟩ : ∃ d, i - p = d + 1 := ⟨i - p - 1, by omega⟩
  rw [e2, Nat.testBit_two_pow_mul_add _ hr, if_neg hlt, hd, Nat.testBit_succ]
  conv => rhs; rw [e1, Nat.testBit_two_pow_mul_add _ hr, if_neg hlt, hd, Nat.testBit_succ]
  congr 1
  omega
/-- One entry, as far as it is made. -/
def accR (g : Nat → Nat) (c i n : Nat) : Nat → Nat
  | 0 => g n
  | r + 1 => if (r + 1) * c ≤ n then accR g c i n r ||| (g (n - (r + 1) * c) <<< 2 ^ i) % 2 ^ 32 else accR g c i n r
/-- The table, level by level from behind. -/
def fT (k : List Nat) : Nat → Nat → Nat
  | 0, n => if n = 0 then 1 else 0
  | d + 1, n => accR (fT k d) (k.getD (k.length - (d + 1)) 0) (k.length - (d + 1)) n n
def tabN (k : List Nat) (i n : Nat) : Nat := fT k (k.length - i) n
theorem accR_lt {g : Nat → Nat} {c i n : Nat} (h : ∀ m ≤ n, g m < 2 ^ 32) : ∀ r, accR g c i n r < 2 ^ 32
  | 0 => h n (Nat.le_refl _)
  | r + 1 => by
    unfold accR
    split
    · exact Nat.or_lt_two_pow (accR_lt h r) (Nat.mod_lt _ (by decide))
    · exact accR_lt h r
theorem accR_pass {g : Nat → Nat} {c i n s : Nat} (h : (g n).testBit s = true) : ∀ r, (accR g c i n r).testBit s = true
  | 0 => h
  | r + 1 => by
    unfold accR
    split
    · rw [Nat.testBit_or, accR_pass h r]; rfl
    · exact accR_pass h r
theorem shl_bit {x i s : Nat} : ((x <<< 2 ^ i) % 2 ^ 32).testBit s = (decide (s < 32) && (decide (2 ^ i ≤ s) && x.testBit (s - 2 ^ i))) := by
  rw [Nat.testBit_mod_two_pow, Nat.testBit_shiftLeft]
theorem accR_give {g : Nat → Nat} {c i n s q : Nat} (hq : 1 ≤ q) (hn : q * c ≤ n) (h : (g (n - q * c)).testBit s = true) (hs : s + 2 ^ i < 32) : ∀ r, q ≤ r → (accR g c i n r).testBit (s + 2 ^ i) = true
  | 0, hr => absurd hr (by omega)
  | r + 1, hr => by
    unfold accR
    by_cases e : q = r + 1
    · subst e
      rw [if_pos hn, Nat.testBit_or, shl_bit, decide_eq_true hs, decide_eq_true (show 2 ^ i ≤ s + 2 ^ i by omega), Nat.add_sub_cancel, h]
      simp
    · have ih := accR_give hq hn h hs r (by omega)
      split
      · rw [Nat.testBit_or, ih]; rfl
      · exact ih
theorem accR_bits {g : Nat → Nat} {c i n T : Nat} (hiT : i < T) (h : ∀ m ≤ n, ∀ s, (g m).testBit s = true → s % 2 ^ (i + 1) = 0 ∧ s < 2 ^ T) : ∀ r s, (accR g c i n r).testBit s = true → s % 2 ^ i = 0 ∧ s < 2 ^ T
  | 0, s, hs => by
    obtain ⟨h1, h2⟩ := h n (Nat.le_refl _) s hs
    refine ⟨?_, h2⟩
    rw [Nat.pow_succ] at h1
    exact Nat.mod_eq_zero_of_dvd (Nat.dvd_trans (Nat.dvd_mul_right _ _) (Nat.dvd_of_mod_eq_zero h1))
  | r + 1, s, hs => by
    unfold accR at hs
    split at hs
    · rw [Nat.testBit_or, Bool.or_eq_true] at hs
      rcases hs with hs | hs
      · exact accR_bits hiT h r s hs
      · rw [shl_bit] at hs
        simp only [Bool.and_eq_true, decide_eq_true_eq] at hs
        obtain ⟨_, h2, h3⟩ := hs
        obtain ⟨g1, g2⟩ := h _ (Nat.sub_le _ _) _ h3
        obtain ⟨a, ha⟩ := Nat.dvd_of_mod_eq_zero g1
        have e1 : s = 2 ^ i * (2 * a + 1) := by rw [Nat.pow_succ, Nat.mul_assoc] at ha; rw [Nat.mul_add, Nat.mul_one, ← ha]; omega
        refine ⟨by rw [e1]; exact Nat.mul_mod_right _ _, ?_⟩
        have e2 : 2 ^ T = 2 ^ (i + 1) * 2 ^ (T - (i + 1)) := by rw [← Nat.pow_add]; congr 1; omega
        rw [ha, e2] at g2
        have g3 := Nat.lt_of_mul_lt_mul_left g2
        have g4 : 2 ^ (i + 1) * (a + 1) ≤ 2 ^ T := by rw [e2]; exact Nat.mul_le_mul_left _ g3
        rw [Nat.pow_succ, Nat.mul_assoc] at g4
        have g5 : 2 ^ i * (2 * a + 1) < 2 ^ i * (2 * (a + 1)) := Nat.mul_lt_mul_of_pos_left (by omega) (Nat.two_pow_pos i)
        rw [e1]; omega
    · exact accR_bits hiT h r s hs
theorem fT_bits {k : List Nat} : ∀ d, d ≤ k.length → ∀ n s, (fT k d n).testBit s = true → s % 2 ^ (k.length - d) = 0 ∧ s < 2 ^ k.length
  | 0, _, n, s, h => by
    unfold fT at h
    split at h
    · rw [show (1 : Nat) = 2 ^ 0 from rfl, Nat.testBit_two_pow] at h
      have : 0 = s := of_decide_eq_true h
      subst this
      exact ⟨Nat.zero_mod _, Nat.two_pow_pos _⟩
    · simp at h
  | d + 1, hd, n, s, h => by
    unfold fT at h
    refine accR_bits (by omega) (fun m _ s hs => ?_) n s h
    rw [show k.length - (d + 1) + 1 = k.length - d by omega]
    exact fT_bits d (by omega) m s hs
theorem fT_lt {k : List Nat} (hT : k.length ≤ 5) : ∀ d, d ≤ k.length → ∀ n, fT k d n < 2 ^ 32
  | 0, _, n => by unfold fT; split <;> decide
  | d + 1, hd, n => by unfold fT; exact accR_lt (fun m _ => fT_lt hT d (by omega) m) n
/-- The table's laws hold. -/
theorem tab_sv {k : List Nat} (hT : k.length ≤ 5) (hk : ∀ x ∈ k, 1 ≤ x) : Sv k (tabN k) where
  lt i n hi _ := fT_lt hT _ (by omega) n
  one := by unfold tabN; rw [Nat.sub_self]; rfl
  none n _ hn := by unfold tabN; rw [Nat.sub_self]; unfold fT; rw [if_neg hn]
  pass i n hi _ s h := by
    unfold tabN at h ⊢
    rw [show k.length - i = k.length - (i + 1) + 1 by omega, fT]
    exact accR_pass h _
  give i n hi hn6 r hr hrn s h := by
    have hb := fT_bits (k := k) (k.length - (i + 1)) (by omega) _ s h
    rw [show k.length - (k.length - (i + 1)) = i + 1 by omega] at hb
    obtain ⟨a, ha⟩ := Nat.dvd_of_mod_eq_zero hb.1
    have hi0 : s.testBit i = false := by
      rw [ha, Nat.pow_succ, Nat.mul_assoc, Nat.testBit_two_pow_mul]
      simp [Nat.testBit_zero]
    have hor : s ||| 2 ^ i = s + 2 ^ i := Nat.eq_of_testBit_eq fun j => by
      rw [bit_more hi0, Nat.testBit_or, Nat.testBit_two_pow]
      by_cases e : j = i
      · subst e; simp
      · rw [if_neg e]; simp [show ¬ i = j from fun h => e h.symm]
    have hlt : s + 2 ^ i < 32 := by
      have e2 : 2 ^ k.length = 2 ^ (i + 1) * 2 ^ (k.length - (i + 1)) := by rw [← Nat.pow_add]; congr 1; omega
      have g2 := hb.2
      rw [ha, e2] at g2
      have g3 := Nat.lt_of_mul_lt_mul_left g2
      have g4 : 2 ^ (i + 1) * (a + 1) ≤ 2 ^ k.length := by rw [e2]; exact Nat.mul_le_mul_left _ g3
      have g5 : 2 ^ k.length ≤ 2 ^ 5 := Nat.pow_le_pow_right (by omega) hT
      rw [Nat.mul_add, Nat.mul_one, ← ha] at g4
      have := Nat.two_pow_pos i
      rw [Nat.pow_succ] at g4
      omega
    rw [hor]
    unfold tabN
    rw [show k.length - i = k.length - (i + 1) + 1 by omega, fT, show k.length - (k.length - (i + 1) + 1) = i by omega]
    refine accR_give hr hrn h hlt _ ?_
    have h1 := get_pos hk i hi
    exact Nat.le_trans (Nat.le_mul_of_pos_right r (by omega)) hrn
end Go.Proofs.YtdpdpjfnanjmgaaDoor
