/- Masks: withOne, OnesCount64, onlyWhole. -/
import Derived.Test.YtbdkogccjnmfoaaLiA
import Derived.Test.YtbdkogccjnmfoaaLiM
namespace Go.Proofs.Ytbdkogccjnmfoaa
open Go.RowKit

theorem wrap64 (m : Nat) (h : m < 18446744073709551616) : IntKind.u64.wrap (m : Int) = m := by
  simp [IntKind.wrap, IntKind.bits, IntKind.signed]
  omega
theorem bits_and (m c : Nat) (hm : m < 18446744073709551616) (hc : c < 18446744073709551616) : bits .and .u64 (m : Int) (c : Int) = ((m &&& c : Nat) : Int) := by
  show IntKind.u64.wrap (((BitVec.ofInt 64 (m : Int) &&& BitVec.ofInt 64 (c : Int)).toNat : Nat) : Int) = _
  rw [BitVec.toNat_and, BitVec.toNat_ofInt, BitVec.toNat_ofInt, show ((m : Int) % (2 ^ 64 : Nat)).toNat = m by omega, show ((c : Int) % (2 ^ 64 : Nat)).toNat = c by omega]
  exact wrap64 _ (Nat.lt_of_le_of_lt Nat.and_le_left hm)
theorem bits_or (m c : Nat) (hm : m < 18446744073709551616) (hc : c < 18446744073709551616) : bits .or .u64 (m : Int) (c : Int) = ((m ||| c : Nat) : Int) := by
  show IntKind.u64.wrap (((BitVec.ofInt 64 (m : Int) ||| BitVec.ofInt 64 (c : Int)).toNat : Nat) : Int) = _
  rw [BitVec.toNat_or, BitVec.toNat_ofInt, BitVec.toNat_ofInt, show ((m : Int) % (2 ^ 64 : Nat)).toNat = m by omega, show ((c : Int) % (2 ^ 64 : Nat)).toNat = c by omega]
  exact wrap64 _ (Nat.or_lt_two_pow (n := 64) hm hc)
theorem withOne_any (m c : Nat) (w : World) (hm : m < 2 ^ 37) (hc : c < 7) : Calls Try.prog 59 #[.int .u64 m, .int .i64 c] w fun e w' => e = .returned (.int .u64 (one m c : Nat)) ∧ w' = w := by
  have hlt : m * 2 ^ c < 18446744073709551616 := by
    have h1 : 2 ^ c ≤ 2 ^ 6 := Nat.pow_le_pow_right (by omega) (by omega)
    have h2 := Nat.mul_le_mul (Nat.le_of_lt hm) h1
    simp only [Nat.reducePow] at h2 ⊢
    omega
  have e1 : IntKind.u64.wrap ((m : Int) * 2 ^ c) = ((m * 2 ^ c : Nat) : Int) := by
    rw [← wrap64 _ hlt]
    congr 1
  have e2 : bits .or .u64 (m : Int) ((m * 2 ^ c : Nat) : Int) = ((one m c : Nat) : Int) := by
    rw [bits_or m (m * 2 ^ c) (by simp only [Nat.reducePow] at hm; omega) hlt]
    unfold one
    rw [Nat.shiftLeft_eq]
  obtain ⟨z, hz⟩ : ∃ z : Int, ((m * 2 ^ c : Nat) : Int) = z := ⟨_, rfl⟩
  rw [hz] at e1 e2
  clear hz hlt hm
  go_enter Try.func59, Try.ntmps59
  go_wp2
  go_ret
  exact ⟨rfl, rfl⟩
set_option maxRecDepth 100000 in
theorem ones_any (m : Nat) (w : World) (hm : m < 18446744073709551616) : Calls Try.prog 58 #[.int .u64 m] w fun e w' => e = .returned (.int .i64 (cnt m : Nat)) ∧ w' = w := by
  obtain ⟨q1, q2, q3, q4⟩ := ones_all m hm
  simp only [Nat.reducePow] at q1 q2 q3
  have e1 : IntKind.u64.wrap (bits .and .u64 ((m : Int) / 2) 6148914691236517205 + bits .and .u64 (m : Int) 6148914691236517205) = ((p1 m : Nat) : Int) := by
    have h1 := bits_and (m / 2) 6148914691236517205 (by omega) (by omega)
    have h2 := bits_and m 6148914691236517205 hm (by omega)
    rw [show ((m : Int) / 2) = ((m / 2 : Nat) : Int) by omega, show (6148914691236517205 : Int) = ((6148914691236517205 : Nat) : Int) from rfl, h1, h2, ← wrap64 _ q1]
    rfl
  obtain ⟨n1, hn1⟩ : ∃ n, p1 m = n := ⟨_, rfl⟩
  rw [hn1] at e1 q1 q2 q3 q4
  have e2 : IntKind.u64.wrap (bits .and .u64 ((n1 : Int) / 4) 3689348814741910323 + bits .and .u64 (n1 : Int) 3689348814741910323) = ((p2 n1 : Nat) : Int) := by
    have h1 := bits_and (n1 / 4) 3689348814741910323 (by omega) (by omega)
    have h2 := bits_and n1 3689348814741910323 q1 (by omega)
    rw [show ((n1 : Int) / 4) = ((n1 / 4 : Nat) : Int) by omega, show (3689348814741910323 : Int) = ((3689348814741910323 : Nat) : Int) from rfl, h1, h2, ← wrap64 (p2 n1) (by omega)]
    rfl
  obtain ⟨n2, hn2⟩ : ∃ n, p2 n1 = n := ⟨_, rfl⟩
  rw [hn2] at e2 q2 q3 q4
  have e3 : bits .and .u64 (IntKind.u64.wrap ((n2 : Int) / 16 + (n2 : Int))) 1085102592571150095 = ((p3 n2 : Nat) : Int) := by
    rw [show ((n2 : Int) / 16 + (n2 : Int)) = ((n2 / 16 + n2 : Nat) : Int) by omega, wrap64 _ (by omega), show (1085102592571150095 : Int) = ((1085102592571150095 : Nat) : Int) from rfl, bits_and _ _ (by omega) (by omega)]
    rfl
  obtain ⟨n3, hn3⟩ : ∃ n, p3 n2 = n := ⟨_, rfl⟩
  rw [hn3] at e3 q3 q4
  unfold fold8 at q4
  obtain ⟨n4, hn4⟩ : ∃ n, n = n3 + n3 / 256 := ⟨_, rfl⟩
  have e4 : IntKind.u64.wrap ((n3 : Int) + (n3 : Int) / 256) = (n4 : Int) := by
    rw [show ((n3 : Int) + (n3 : Int) / 256) = (n4 : Int) by omega, wrap64 _ (by omega)]
  rw [← hn4] at q4
  obtain ⟨n5, hn5⟩ : ∃ n, n = n4 + n4 / 65536 := ⟨_, rfl⟩
  have e5 : IntKind.u64.wrap ((n4 : Int) + (n4 : Int) / 65536) = (n5 : Int) := by
    rw [show ((n4 : Int) + (n4 : Int) / 65536) = (n5 : Int) by omega, wrap64 _ (by omega)]
  rw [← hn5] at q4
  obtain ⟨n6, hn6⟩ : ∃ n, n = n5 + n5 / 4294967296 := ⟨_, rfl⟩
  have e6 : IntKind.u64.wrap ((n5 : Int) + (n5 : Int) / 4294967296) = (n6 : Int) := by
    rw [show ((n5 : Int) + (n5 : Int) / 4294967296) = (n6 : Int) by omega, wrap64 _ (by omega)]
  rw [← hn6] at q4
  have b6 : n6 < 9223372036854775808 := by omega
  have e7 : bits .and .i64 (n6 : Int) 127 = ((cnt m : Nat) : Int) := by
    show IntKind.i64.wrap (((BitVec.ofInt 64 (n6 : Int) &&& BitVec.ofInt 64 127).toNat : Nat) : Int) = _
    rw [BitVec.toNat_and, BitVec.toNat_ofInt, BitVec.toNat_ofInt, show ((n6 : Int) % (2 ^ 64 : Nat)).toNat = n6 by omega, show ((127 : Int) % (2 ^ 64 : Nat)).toNat = 2 ^ 7 - 1 from rfl, Nat.and_two_pow_sub_one_eq_mod, show (2 : Nat) ^ 7 = 128 from rfl, q4]
    exact IntWalk.i64_in _ (by omega)
  clear q4
  clear q1 q2 q3 hn1 hn2 hn3 hn4 hn5 hn6 hm
  go_enter Try.func58, Try.ntmps58
  go_wp2
  go_ret
  exact ⟨rfl, rfl⟩
theorem only_any (m : Nat) (w : World) (hm : m < 18446744073709551616) : Calls Try.prog 49 #[.int .u64 m] w fun e w' => e = .returned (.bool (decide (cnt m = 2))) ∧ w' = w := by
  have H := hid (ones_any m w hm)
  clear hm
  by_cases h : cnt m = 2
  · rw [h] at H ⊢
    go_enter Try.func49, Try.ntmps49
    go_wp2_with fail
    refine H.out.mono ?_
    rintro e w1 ⟨rfl, rfl⟩
    go_wp2_with fail
    go_ret
    exact ⟨rfl, rfl⟩
  · have h' : (((cnt m : Nat) : Int) == 2) = false := by simp; omega
    rw [decide_eq_false h]
    obtain ⟨n, hn⟩ : ∃ n : Int, ((cnt m : Nat) : Int) = n := ⟨_, rfl⟩
    rw [hn] at H h'
    clear hn h
    go_enter Try.func49, Try.ntmps49
    go_wp2_with fail
    refine H.out.mono ?_
    rintro e w1 ⟨rfl, rfl⟩
    go_wp2_with fail
    go_ret
    exact ⟨rfl, rfl⟩
end Go.Proofs.Ytbdkogccjnmfoaa
