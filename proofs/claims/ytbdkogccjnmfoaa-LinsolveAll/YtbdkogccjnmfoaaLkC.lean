/- sums and Minimal. -/
import Derived.Test.YtbdkogccjnmfoaaLkB
namespace Go.Proofs.Ytbdkogccjnmfoaa
open Go.RowKit Go.Shelf

/-- The counts up to a place. -/
def cutX (x : Nat → Nat) (j t : Nat) : Nat → Nat := fun i => if i < j then x i else if i = j then t else 0
theorem cut_up (x : Nat → Nat) (j t : Nat) : up (cutX x j t) j = cutX x j (t + 1) := funext fun i => by
  unfold up cutX
  by_cases h : i = j
  · subst h; simp
  · simp [h]
theorem cut_next (x : Nat → Nat) (j : Nat) : cutX x j (x j) = cutX x (j + 1) 0 := funext fun i => by
  unfold cutX
  by_cases h : i < j
  · simp [h, show i < j + 1 by omega]
  · by_cases h2 : i = j
    · subst h2; simp
    · simp [h, h2, show ¬ i < j + 1 by omega]
theorem cut_none (x : Nat → Nat) : cutX x 0 0 = fun _ => 0 := funext fun i => by
  unfold cutX
  simp
theorem cut_all (x : Nat → Nat) (n : Nat) (h : ∀ i, n ≤ i → x i = 0) : cutX x n 0 = x := funext fun i => by
  unfold cutX
  by_cases hi : i < n
  · simp [hi]
  · rw [if_neg hi, h i (by omega)]; simp
theorem cut_le (x : Nat → Nat) (j t : Nat) (h : t ≤ x j) (i : Nat) : cutX x j t i ≤ x i := by
  unfold cutX
  split
  · exact Nat.le_refl _
  · split
    · next e => rw [e]; exact h
    · exact Nat.zero_le _
set_option maxRecDepth 100000 in
set_option maxHeartbeats 2000000 in
theorem sums_any (p : Option Addr) (c : Nat) (ks : List Int) (q : Option Addr) (d : Nat) (ns : List Int) (w : World) (hK : IntsAt w p ks) (hN : IntsAt w q ns) (hk : Coe ks) (hle : ks.length ≤ ns.length) (A x : Nat → Nat) (hA : ∀ i (h : i < ks.length), ks[i] = (A i : Int)) (hx : ∀ i (h : i < ns.length), i < ks.length → ns[i] = (x i : Int)) (hz : ∀ i, ks.length ≤ i → x i = 0) (hS : S A x ks.length ≤ 36) :
    Calls Try.prog 50 #[.slice p ks.length c, .slice q ns.length d] w fun e w' => (∃ m : Nat, e = .returned (.int .u64 m) ∧ Mask ks.length A x m ∧ m < 2 ^ 37) ∧ w' = w := by
  have HK := hid hK; have HN := hid hN; have HCK := hid hk; have HA := hid hA; have HXX := hid hx; have HZ := hid hz; have HS := hid hS
  have hmax : maxLen = 9223372036854775807 := rfl
  have hs1 := hK.small; have hs2 := hN.small
  have HLT : Hid (∀ j t m, t ≤ x j → Mask ks.length A (cutX x j t) m → m < 2 ^ 37) := hid (fun j t m ht hm => Nat.lt_of_lt_of_le (mask_lt hm) (Nat.pow_le_pow_right (by omega) (by have := S_le A (cut_le x j t ht) ks.length; omega)))
  clear hK hN hk hA hx hz hS
  go_enter Try.func50, Try.ntmps50
  go_wp2_with fail
  go_loopw [5, 10] (fun sv iv wr => ∃ (j m : Nat), j ≤ ks.length ∧ iv = .int .i64 j ∧ sv = .int .u64 m ∧ Mask ks.length A (cutX x j 0) m ∧ wr = w) (fun _ iv _ => ks.length - (intOf iv).toNat)
  case atStart => exact ⟨0, 1, Nat.zero_le _, rfl, rfl, by rw [cut_none]; exact mask_zero _ _, rfl⟩
  case round =>
    obtain ⟨j, m, hj, rfl, rfl, hm, hwr⟩ := hrel
    subst hwr
    rename World => w
    have HM := hid hm
    clear hm
    by_cases hlt : j < ks.length
    · have hlt2 : j < ns.length := by omega
      obtain ⟨b, o, rfl, hc⟩ := HK.out.cells j hlt
      obtain ⟨b2, o2, rfl, hc2⟩ := HN.out.cells j hlt2
      have g1 := HCK.out.get j hlt
      have e1 := HA.out j hlt
      have e2 := HXX.out j hlt2 hlt
      rw [e1] at hc g1
      rw [e2] at hc2
      have hA7 : A j < 7 := by omega
      obtain ⟨X, hX⟩ : ∃ X, x j = X := ⟨_, rfl⟩
      rw [hX] at hc2
      have HXJ := hid hX
      have hX36 : X ≤ 36 := by
        have := S_ge A x ks.length j hlt
        have h1 := HS.out
        have h2 : 1 * x j ≤ A j * x j := Nat.mul_le_mul_right _ (by omega)
        omega
      clear e1 e2 hX
      go_wp2_with fail
      go_loopw [5, 19] (fun sv tv wr => ∃ (t m : Nat), t ≤ X ∧ tv = .int .i64 t ∧ sv = .int .u64 m ∧ Mask ks.length A (cutX x j t) m ∧ wr = w) (fun _ tv _ => X - (intOf tv).toNat)
      case atStart => exact ⟨0, m, Nat.zero_le _, rfl, rfl, HM.out, rfl⟩
      case round =>
        obtain ⟨t, m', ht, rfl, rfl, hm, hwr⟩ := hrel
        subst hwr
        rename World => w
        by_cases htl : t < X
        · have HW := hid (withOne_any m' (A j) w (HLT.out j t m' (by rw [HXJ.out]; omega) hm) hA7)
          have HN' : Hid (Mask ks.length A (cutX x j (t + 1)) (one m' (A j))) := hid (by rw [← cut_up]; exact mask_up hm hlt)
          clear hm
          go_wp2_with fail
          refine HW.out.mono ?_
          rintro e w1 ⟨rfl, hw1⟩
          subst hw1
          go_wp2_with fail
          go_roundw
          case rel => exact ⟨t + 1, one m' (A j), by omega, by go_num, rfl, HN'.out, trivial⟩
          case measure => simp [intOf]; omega
        · have htX : t = X := by omega
          have HN' : Hid (Mask ks.length A (cutX x (j + 1) 0) m') := hid (by rw [← cut_next, HXJ.out, ← htX]; exact hm)
          clear hm
          go_wp2_with fail
          go_roundw
          case rel => exact ⟨j + 1, m', by omega, by go_num, rfl, HN'.out, trivial⟩
          case measure => simp [intOf]; omega
    · have e1 : j = ks.length := by omega
      have HF : Hid (Mask ks.length A x m ∧ m < 2 ^ 37) := hid ⟨by have := HM.out; rw [e1, cut_all x _ HZ.out] at this; exact this, HLT.out j 0 m (Nat.zero_le _) HM.out⟩
      go_wp2_with fail
      go_ret
      exact ⟨⟨m, rfl, HF.out⟩, rfl⟩
end Go.Proofs.Ytbdkogccjnmfoaa
