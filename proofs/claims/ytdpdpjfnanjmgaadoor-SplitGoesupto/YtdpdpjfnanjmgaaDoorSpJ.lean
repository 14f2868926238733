/- joined, everybody, needless; Check. -/
import Derived.Test.YtdpdpjfnanjmgaaDoorSpA
import Derived.Test.YtdpdpjfnanjmgaaDoorSpQ
import Derived.Laws.BitsAllLaws
namespace Go.Proofs.YtdpdpjfnanjmgaaDoor
open Go.RowKit

theorem w64 (x : Nat) (h : x < 1000000) : wrap64 (x : Int) = (x : Int) := IntWalk.wrap64_in _ (by constructor <;> omega)
theorem pow_wrap (n : Nat) (hn : n ≤ 5) : wrap64 (2 ^ n) = ((2 ^ n : Nat) : Int) ∧ wrap64 ((2 : Int) ^ n - 1) = ((allB n : Nat) : Int) := by
  have h1 : 2 ^ n ≤ 2 ^ 5 := Nat.pow_le_pow_right (by omega) hn
  have h2 := Nat.two_pow_pos n
  have h3 : ((2 : Int) ^ n) = ((2 ^ n : Nat) : Int) := by simp
  have h4 : ((2 : Int) ^ n) - 1 = ((allB n : Nat) : Int) := by unfold allB; rw [h3]; omega
  refine ⟨by rw [h3]; exact w64 _ (by omega), by rw [h4]; exact w64 _ (by unfold allB; omega)⟩
theorem everybody_any (a : Option Addr) (n c : Nat) (w : World) (hn : n ≤ 5) : Calls Tryd.prog 20 #[.slice a n c] w fun e w' => e = .returned (.int .i64 (allB n)) ∧ w' = w := by
  obtain ⟨h1, h2⟩ := pow_wrap n hn
  go_enter Tryd.func20, Tryd.ntmps20
  go_wp2_with fail
  first | rw [h1] | skip
  first | rw [h2] | skip
  go_ret
  exact ⟨rfl, rfl⟩
theorem needless_any (a : Option Addr) (n c : Nat) (e : Bool) (w : World) (hn : n ≤ 5) : Calls Tryd.prog 18 #[.slice a n c, .bool e] w fun en w' => en = .returned (.int .i64 ((if e then allB n else 0 : Nat) : Int)) ∧ w' = w := by
  have H := hid (everybody_any a n c w hn)
  cases e with
  | true =>
    go_enter Tryd.func18, Tryd.ntmps18
    go_wp2_with fail
    refine H.out.mono ?_
    rintro e w1 ⟨rfl, rfl⟩
    go_wp2_with fail
    go_ret
    exact ⟨rfl, rfl⟩
  | false =>
    go_enter Tryd.func18, Tryd.ntmps18
    go_wp2_with fail
    go_ret
    exact ⟨rfl, rfl⟩
theorem low_off {A p : Nat} (h0 : A % 2 ^ p = 0) (h1 : A.testBit p = true) (i : Nat) : (A - 2 ^ p).testBit i = (A.testBit i && decide (i ≠ p)) := by
  obtain ⟨q, hq⟩ := odd_part h0 h1
  have e1 : A - 2 ^ p = 2 ^ p * (2 * q) := by rw [hq, Nat.mul_add, Nat.mul_one, Nat.add_sub_cancel]
  rw [e1, hq, Nat.testBit_two_pow_mul, Nat.testBit_two_pow_mul]
  by_cases hi : i ≥ p
  · by_cases e : i = p
    · subst e; simp
    · obtain ⟨d, hd⟩ : ∃ d, i - p = d + 1 := ⟨i - p - 1, by omega⟩
      rw [hd, Nat.testBit_succ, Nat.testBit_succ, show 2 * q / 2 = q by omega, show (2 * q + 1) / 2 = q by omega]
      simp [e]
  · simp [hi]
theorem and_pred {A p : Nat} (h0 : A % 2 ^ p = 0) (h1 : A.testBit p = true) : A &&& (A - 1) = A - 2 ^ p := by
  obtain ⟨q, hq⟩ := odd_part h0 h1
  have hp := Nat.two_pow_pos p
  have e1 : A - 1 = 2 ^ p * (2 * q) + (2 ^ p - 1) := by rw [hq, Nat.mul_add, Nat.mul_one]; omega
  refine Nat.eq_of_testBit_eq fun i => ?_
  rw [low_off h0 h1, Nat.testBit_and, e1, Nat.testBit_two_pow_mul_add _ (by omega)]
  by_cases hi : i < p
  · rw [if_pos hi]
    have : A.testBit i = false := by rw [hq, Nat.testBit_two_pow_mul]; simp; omega
    rw [this]; rfl
  · rw [if_neg hi]
    by_cases e : i = p
    · subst e; simp
    · obtain ⟨d, hd⟩ : ∃ d, i - p = d + 1 := ⟨i - p - 1, by omega⟩
      have h2 : A.testBit i = q.testBit d := by rw [hq, Nat.testBit_two_pow_mul, hd, Nat.testBit_succ, show (2 * q + 1) / 2 = q by omega]; simp; omega
      rw [h2, hd, Nat.testBit_succ, show 2 * q / 2 = q by omega]
      simp [e]
theorem join_low {A b p : Nat} (h0 : A % 2 ^ p = 0) (h1 : A.testBit p = true) (hA : A < 2 ^ 32) (hb : b < 2 ^ 32) : joinN A b = joinN (2 ^ p) b ||| joinN (A - 2 ^ p) b := Nat.eq_of_testBit_eq fun s => by
  have hp := bit_lt32 hA h1
  have hpp : 2 ^ p < 2 ^ 32 := Nat.pow_lt_pow_right (by omega) hp
  have hlo := low_off h0 h1
  rw [Bool.eq_iff_iff, Nat.testBit_or, Bool.or_eq_true, join_bit hA hb, join_bit hpp hb, join_bit (by omega) hb]
  constructor
  · rintro ⟨x, y, hx, hy, rfl⟩
    by_cases e : x = p
    · subst e; exact .inl ⟨x, y, Nat.testBit_two_pow_self, hy, rfl⟩
    · exact .inr ⟨x, y, by rw [hlo]; simp [hx, e], hy, rfl⟩
  · rintro (⟨x, y, hx, hy, rfl⟩ | ⟨x, y, hx, hy, rfl⟩)
    · rw [Nat.testBit_two_pow] at hx
      have : p = x := of_decide_eq_true hx
      subst this
      exact ⟨p, y, h1, hy, rfl⟩
    · rw [hlo, Bool.and_eq_true] at hx
      exact ⟨x, y, hx.1, hy, rfl⟩
theorem join_comm {a b : Nat} (ha : a < 2 ^ 32) (hb : b < 2 ^ 32) : joinN a b = joinN b a := Nat.eq_of_testBit_eq fun s => by
  rw [Bool.eq_iff_iff, join_bit ha hb, join_bit hb ha]
  exact ⟨fun ⟨x, y, h1, h2, h3⟩ => ⟨y, x, h2, h1, by rw [h3, Nat.or_comm]⟩, fun ⟨x, y, h1, h2, h3⟩ => ⟨y, x, h2, h1, by rw [h3, Nat.or_comm]⟩⟩
theorem join_pow {p q : Nat} (hp : p < 32) (hq : q < 32) : joinN (2 ^ p) (2 ^ q) = 2 ^ (p ||| q) := Nat.eq_of_testBit_eq fun s => by
  rw [Bool.eq_iff_iff, join_bit (Nat.pow_lt_pow_right (by omega) hp) (Nat.pow_lt_pow_right (by omega) hq), Nat.testBit_two_pow, decide_eq_true_eq]
  constructor
  · rintro ⟨x, y, h1, h2, rfl⟩
    rw [Nat.testBit_two_pow] at h1 h2
    have := of_decide_eq_true h1; have := of_decide_eq_true h2
    subst p q; rfl
  · rintro rfl
    exact ⟨p, q, Nat.testBit_two_pow_self, Nat.testBit_two_pow_self, rfl⟩
theorem i64_or_nat (a b : Nat) (ha : a < 32) (hb : b < 32) : bits .or .i64 (a : Int) (b : Int) = ((a ||| b : Nat) : Int) := by
  have hx : a ||| b < 32 := or_lt32 ha hb
  have h1 : ∀ x : Nat, x < 32 → (BitVec.ofInt 64 (x : Int)).toNat = x := fun x hx => by
    rw [BitVec.ofInt_natCast, BitVec.toNat_ofNat]; exact Nat.mod_eq_of_lt (by omega)
  show IntKind.i64.wrap ((BitVec.ofInt 64 (a : Int) ||| BitVec.ofInt 64 (b : Int)).toNat : Int) = _
  rw [BitVec.toNat_or, h1 a ha, h1 b hb]
  exact IntWalk.i64_in _ (by constructor <;> omega)
theorem shl_u32 (p : Nat) (h : p < 32) : IntKind.u32.wrap (2 ^ p) = ((2 ^ p : Nat) : Int) := by
  have h1 : 2 ^ p < 2 ^ 32 := Nat.pow_lt_pow_right (by omega) h
  have h2 : ((2 ^ p : Nat) : Int) < 4294967296 := by omega
  rw [IntKind.wrap_u32', show ((2 : Int) ^ p) = ((2 ^ p : Nat) : Int) by simp]
  exact Int.emod_eq_of_lt (Int.natCast_nonneg _) h2
theorem pred_u32 (A : Nat) (h : A < 4294967296) (hp : 0 < A) : IntKind.u32.wrap ((A : Int) - 1) = ((A - 1 : Nat) : Int) := by
  rw [IntKind.wrap_u32', Int.emod_eq_of_lt (by omega) (by omega)]; omega
set_option maxRecDepth 100000 in
set_option maxHeartbeats 2000000 in
theorem joined_any (a b : Nat) (w : World) (ha : a < 2 ^ 32) (hb : b < 2 ^ 32) (hT : Tab w) : Calls Tryd.prog 37 #[.int .u32 a, .int .u32 b] w fun e w' => e = .returned (.int .u32 (joinN a b)) ∧ w' = w := by
  obtain ⟨J, hJ⟩ : ∃ J, joinN a b = J := ⟨_, rfl⟩
  have HJ := hid hJ; have HB := hid hb; have HA := hid ha; have HT := hid hT
  rw [hJ]
  clear hJ hb ha hT
  go_enter Tryd.func37, Tryd.ntmps37
  go_wp2_with fail
  go_loopw [0, 5] (fun l u wr => ∃ A U : Nat, l = .int .u32 A ∧ u = .int .u32 U ∧ A < 2 ^ 32 ∧ U < 2 ^ 32 ∧ U ||| joinN A b = J ∧ wr = w) (fun l _ _ => (intOf l).toNat)
  case atStart => exact ⟨a, 0, rfl, rfl, HA.out, by decide, by rw [Nat.zero_or]; exact HJ.out, rfl⟩
  case round =>
    obtain ⟨A, U, rfl, rfl, hA, hU, hm, rfl⟩ := hrel
    rcases Nat.eq_zero_or_pos A with h0 | hpos
    · subst h0
      have e1 : U = J := by
        rw [← hm]
        have : joinN 0 b = 0 := by rw [join_comm (by decide) HB.out, join_zero HB.out]
        rw [this, Nat.or_zero]
      subst e1
      go_wp2_with fail
      go_ret
      exact ⟨rfl, rfl⟩
    · obtain ⟨p, hp0, hp1⟩ := low_there (M := A) (by omega)
      have hp := bit_lt32 hA hp1
      have hne : ((A : Int) != 0) = true := by simp; omega
      have HM : Hid (U ||| (joinN (2 ^ p) b ||| joinN (A - 2 ^ p) b) = J) := hid (by rw [← join_low hp0 hp1 hA HB.out]; exact hm)
      have HZ := hid (tz_any A p hp0 hp1 (by omega) wr.drew (fun i hi => HT.out i hi))
      have HZ' := hid (tz_any A p hp0 hp1 (by omega) wr HT.out)
      have h2 := pred_u32 A (by omega) hpos
      have h3 := u32_and_nat A (A - 1) (by omega) (by omega)
      rw [and_pred hp0 hp1] at h3
      have hle := bit_le hp1
      have HP := hid hp0; have HU := hid hU
      clear hm hp0 hp1 hU
      go_wp2_with fail
      refine HZ'.out.mono ?_
      rintro e w1 ⟨rfl, rfl⟩
      go_wp2_with fail
      go_loopw [7, 5] (fun r u w2 => ∃ B V : Nat, r = .int .u32 B ∧ u = .int .u32 V ∧ B < 2 ^ 32 ∧ V < 2 ^ 32 ∧ V ||| (joinN (2 ^ p) B ||| joinN (A - 2 ^ p) b) = J ∧ w2 = w1) (fun r _ _ => (intOf r).toNat)
      case atStart => exact ⟨b, U, rfl, rfl, HB.out, HU.out, HM.out, rfl⟩
      case round =>
        obtain ⟨B, V, rfl, rfl, hB, hV, hm, rfl⟩ := hrel
        have hpp : 2 ^ p < 2 ^ 32 := Nat.pow_lt_pow_right (by omega) hp
        rcases Nat.eq_zero_or_pos B with h0 | hposB
        · subst h0
          rw [join_zero hpp, Nat.zero_or] at hm
          have HM2 := hid hm; have HV := hid hV
          clear hm hV
          go_wp2_with fail
          go_roundw
          case rel => exact ⟨A - 2 ^ p, V, rfl, rfl, Nat.lt_of_le_of_lt (Nat.sub_le _ _) hA, HV.out, HM2.out, trivial⟩
          case measure =>
            have := Nat.two_pow_pos p
            simp [intOf]; omega
        · obtain ⟨q, hq0, hq1⟩ := low_there (M := B) (by omega)
          have hq := bit_lt32 hB hq1
          have hneB : ((B : Int) != 0) = true := by simp; omega
          have hqq : 2 ^ q < 2 ^ 32 := Nat.pow_lt_pow_right (by omega) hq
          have HM2 : Hid ((V ||| 2 ^ (p ||| q)) ||| (joinN (2 ^ p) (B - 2 ^ q) ||| joinN (A - 2 ^ p) b) = J) := hid (by
            rw [← hm, join_comm hpp hB, join_low hq0 hq1 hB hpp, join_comm hqq hpp, join_pow hp hq, join_comm hpp (by omega)]
            simp only [Nat.or_assoc])
          have HZ2 := hid (tz_any B q hq0 hq1 (by omega) _ HT.out)
          have k2 := pred_u32 B (by omega) hposB
          have k3 := u32_and_nat B (B - 1) (by omega) (by omega)
          rw [and_pred hq0 hq1] at k3
          have k4 := i64_or_nat p q hp hq
          have k5 : ((2 : Int) ^ min (p ||| q) 32 % 4294967296) = ((2 ^ (p ||| q) : Nat) : Int) := by
            have h5 := shl_u32 (p ||| q) (or_lt32 hp hq)
            rw [IntKind.wrap_u32'] at h5
            rw [Nat.min_eq_left (Nat.le_of_lt (or_lt32 hp hq))]
            exact h5
          have k6 : bits .or .u32 (V : Int) ((2 ^ (p ||| q) : Nat) : Int) = ((V ||| 2 ^ (p ||| q) : Nat) : Int) := u32_or_nat _ _ (by omega) (by have := Nat.pow_lt_pow_right (a := 2) (by omega) (or_lt32 hp hq); omega)
          have k7 : V ||| 2 ^ (p ||| q) < 2 ^ 32 := Nat.or_lt_two_pow hV (Nat.pow_lt_pow_right (by omega) (or_lt32 hp hq))
          have HK7 := hid k7
          have hleB := bit_le hq1
          clear hm hq0 hq1 k7
          go_wp2_with fail
          refine HZ2.out.mono ?_
          rintro e w3 ⟨rfl, rfl⟩
          go_wp2_with fail
          go_roundw
          case rel => exact ⟨B - 2 ^ q, V ||| 2 ^ (p ||| q), rfl, by rw [← k6]; simp, Nat.lt_of_le_of_lt (Nat.sub_le _ _) hB, HK7.out, HM2.out, trivial⟩
          case measure =>
            have := Nat.two_pow_pos q
            simp [intOf]; omega
end Go.Proofs.YtdpdpjfnanjmgaaDoor
