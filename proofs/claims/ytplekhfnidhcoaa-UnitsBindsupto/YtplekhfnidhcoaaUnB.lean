/- Ways, plainly: the digits of a number, the binds that they say; how many ways there are. -/
import Derived.Test.YtplekhfnidhcoaaUnA
namespace Go.Proofs.Ytplekhfnidhcoaa
open Go.RowKit Go.Shelf

/-- A name, and the place of a constant. -/
abbrev Bl := ByteArray × Int
/-- The binds of the number k, names from the last to the first. -/
def wayR (us : List Int) : List ByteArray → Nat → List Bl
  | [], _ => []
  | v :: r, k => wayR us r (k / (us.length + 1)) ++ (if k % (us.length + 1) = 0 then [] else [(v, us.getD (k % (us.length + 1) - 1) 0)])
/-- What Way answers. -/
def wayO (us : List Int) (vs : List ByteArray) (k : Int) : List Bl × Bool := if k < 0 then ([], false) else if k.toNat / (us.length + 1) ^ vs.length = 0 then (wayR us vs.reverse k.toNat, true) else ([], false)
theorem wayR_zero (us : List Int) : ∀ r : List ByteArray, wayR us r 0 = []
  | [] => rfl
  | v :: r => by simp only [wayR, Nat.zero_div, Nat.zero_mod, if_pos, wayR_zero us r]; rfl
theorem wayR_len (us : List Int) : ∀ (r : List ByteArray) (k : Nat), 0 < k → 2 ^ (wayR us r k).length ≤ 2 * k
  | [], k, hk => by show 2 ^ 0 ≤ 2 * k; omega
  | v :: r, k, hk => by
    simp only [wayR, List.length_append]
    have hle : k / (us.length + 1) ≤ k := Nat.div_le_self _ _
    rcases Nat.eq_zero_or_pos (k / (us.length + 1)) with h0 | h0
    · rw [h0, wayR_zero]
      split
      · simp only [List.length_nil, Nat.add_zero, Nat.pow_zero]; omega
      · simp only [List.length_nil, List.length_cons, Nat.zero_add, Nat.pow_one]; omega
    · have ih := wayR_len us r _ h0
      split
      · simp only [List.length_nil, Nat.add_zero]; omega
      · rename_i hm
        simp only [List.length_cons, List.length_nil, Nat.zero_add]
        have hb : 2 ≤ us.length + 1 := by
          rcases Nat.eq_zero_or_pos us.length with h1 | h1
          · rw [h1, Nat.zero_add, Nat.mod_one] at hm; omega
          · omega
        have h2 : 2 * (k / (us.length + 1)) ≤ k := Nat.le_trans (Nat.mul_le_mul_right _ hb) (Nat.mul_div_le k _)
        rw [Nat.pow_succ]
        omega
theorem wayR_small (us : List Int) (r : List ByteArray) (k : Nat) (hk : k ≤ 9223372036854775807) : (wayR us r k).length ≤ 63 := by
  rcases Nat.eq_zero_or_pos k with h0 | h0
  · rw [h0, wayR_zero]; exact Nat.zero_le _
  · have h := wayR_len us r k h0
    refine Nat.le_of_not_lt fun hlt => ?_
    have h2 : 2 ^ 65 ≤ 2 ^ ((wayR us r k).length + 1) := Nat.pow_le_pow_right (by omega) (by omega)
    rw [Nat.pow_succ] at h2
    omega
theorem pow_next (b m k : Nat) : k / b ^ (m + 1) = k / b ^ m / b := by rw [Nat.pow_succ, Nat.div_div_eq_div_mul]
theorem pow_next' (b m k : Nat) : k / b ^ (m + 1) = k / b / b ^ m := by rw [Nat.pow_succ, Nat.mul_comm, Nat.div_div_eq_div_mul]
/-- The binds of the first i names. -/
def wayI (us : List Int) (vs : List ByteArray) (k i : Nat) : List Bl := wayR us (vs.take i).reverse (k / (us.length + 1) ^ (vs.length - i))
/-- The digit of name i. -/
def digI (us : List Int) (vs : List ByteArray) (k i : Nat) : Nat := k / (us.length + 1) ^ (vs.length - 1 - i) % (us.length + 1)
theorem wayI_zero (us : List Int) (vs : List ByteArray) (k : Nat) : wayI us vs k 0 = [] := rfl
theorem wayI_all (us : List Int) (vs : List ByteArray) (k : Nat) : wayI us vs k vs.length = wayR us vs.reverse k := by unfold wayI; rw [List.take_length, Nat.sub_self, Nat.pow_zero, Nat.div_one]
theorem wayI_succ (us : List Int) (vs : List ByteArray) (k i : Nat) (h : i < vs.length) : wayI us vs k (i + 1) = wayI us vs k i ++ (if digI us vs k i = 0 then [] else [(vs[i], us.getD (digI us vs k i - 1) 0)]) := by
  unfold wayI digI
  rw [List.take_succ_eq_append_getElem h, List.reverse_append, List.reverse_cons, List.reverse_nil, List.nil_append, List.singleton_append]
  have e1 : vs.length - (i + 1) = vs.length - 1 - i := by omega
  have e2 : vs.length - i = vs.length - 1 - i + 1 := by omega
  rw [e1, e2, pow_next]
  rfl
theorem wayR_step (us : List Int) (v : ByteArray) (r : List ByteArray) (k : Nat) : wayR us (v :: r) k = wayR us r (k / (us.length + 1)) ++ (if k % (us.length + 1) = 0 then [] else [(v, us.getD (k % (us.length + 1) - 1) 0)]) := rfl
theorem wayI_small (us : List Int) (vs : List ByteArray) (k i : Nat) (hk : k ≤ 9223372036854775807) : (wayI us vs k i).length ≤ 63 := wayR_small us _ _ (Nat.le_trans (Nat.div_le_self _ _) hk)
theorem dig_lt (us : List Int) (vs : List ByteArray) (k i : Nat) : digI us vs k i < us.length + 1 := Nat.mod_lt _ (by omega)
/-- How many ways there are, up to most. -/
def manyO (u n : Nat) (most : Int) : Int := if most < 0 then 0 else if ((u + 1) ^ n : Nat) ≤ most.toNat then (((u + 1) ^ n : Nat) : Int) else most
theorem manyO_neg {u n : Nat} {most : Int} (h : most < 0) : manyO u n most = 0 := by unfold manyO; rw [if_pos h]
theorem many_over {u n m : Nat} (j : Nat) (hj : j < n) (h : m / (u + 1) < (u + 1) ^ j) : manyO u n (m : Int) = m := by
  unfold manyO
  rw [if_neg (by omega), if_neg]
  rw [Int.toNat_natCast]
  have h1 : m < (u + 1) ^ (j + 1) := by
    rw [Nat.pow_succ]
    exact (Nat.div_lt_iff_lt_mul (by omega)).1 h
  have h2 : (u + 1) ^ (j + 1) ≤ (u + 1) ^ n := Nat.pow_le_pow_right (by omega) (by omega)
  omega
theorem many_end {u n m : Nat} : manyO u n (m : Int) = (if ((u + 1) ^ n : Nat) ≤ m then (((u + 1) ^ n : Nat) : Int) else m) := by
  unfold manyO
  rw [if_neg (by omega), Int.toNat_natCast]
theorem many_step {u j m : Nat} (h : ¬ m / (u + 1) < (u + 1) ^ j) : (u + 1) ^ (j + 1) ≤ m := by
  rw [Nat.pow_succ]
  exact (Nat.le_div_iff_mul_le (by omega)).1 (by omega)
end Go.Proofs.Ytplekhfnidhcoaa
