/- How many ways there are: the program's Many and the document's. -/
import Derived.Test.YtplekhfnidhcoaaUnB
namespace Go.Proofs.Ytplekhfnidhcoaa
open Go.RowKit Go.Shelf Go.Deep

/-- A number of a machine. -/
def Is64 (x : Int) : Prop := -9223372036854775808 ≤ x ∧ x ≤ 9223372036854775807
theorem base_any (p : Option Addr) (n c : Nat) (hn : n ≤ 17592186044416) (w : World) : Calls Try.prog 28 #[.slice p n c] w fun e w' => e = .returned (.int .i64 ((n : Int) + 1)) ∧ w' = w := by
  have hz : (n : Int) ≤ 17592186044416 := by omega
  go_enter Try.func28, Try.ntmps28
  go_wp2
  go_ret
  exact ⟨rfl, rfl⟩
theorem quo_nat (m u : Nat) : (m : Int).tdiv ((u : Int) + 1) = ((m / (u + 1) : Nat) : Int) := by
  rw [Int.tdiv_eq_ediv_of_nonneg (by omega)]
  exact (Int.natCast_ediv m (u + 1)).symm
theorem rem_nat (m u : Nat) : (m : Int).tmod ((u : Int) + 1) = ((m % (u + 1) : Nat) : Int) := by
  rw [Int.tmod_eq_emod_of_nonneg (by omega)]
  exact (Int.natCast_emod m (u + 1)).symm
set_option maxRecDepth 100000 in
set_option maxHeartbeats 2000000 in
/-- The program's Many. -/
theorem many_any (p : Option Addr) (u c : Nat) (q : Option Addr) (n d : Nat) (most : Int) (hu : u ≤ 17592186044416) (hn : n ≤ 17592186044416) (hm : Is64 most) (w : World) :
    Calls Try.prog 16 #[.slice p u c, .slice q n d, .int .i64 most] w fun e w' => e = .returned (.int .i64 (manyO u n most)) ∧ w' = w := by
  obtain ⟨h1, h2⟩ := hm
  by_cases hneg : most < 0
  · rw [manyO_neg hneg]
    go_enter Try.func16, Try.ntmps16
    go_wp2
    go_ret
    exact ⟨rfl, rfl⟩
  · obtain ⟨m, rfl⟩ : ∃ m : Nat, most = m := ⟨most.toNat, by omega⟩
    obtain ⟨R, hR⟩ : ∃ R, manyO u n (m : Int) = R := ⟨_, rfl⟩
    rw [hR]
    have HR := hid hR
    have HU := hid hu
    have hnz : (n : Int) ≤ 17592186044416 := by omega
    obtain ⟨B, hB⟩ : ∃ B : Int, (u : Int) + 1 = B := ⟨_, rfl⟩
    obtain ⟨Q, hQ⟩ : ∃ Q : Int, (m : Int).tdiv B = Q := ⟨_, rfl⟩
    have hQn : Q = ((m / (u + 1) : Nat) : Int) := by rw [← hQ, ← hB]; exact quo_nat m u
    have hQm : m / (u + 1) ≤ m := Nat.div_le_self _ _
    obtain ⟨Y, hY⟩ : ∃ Y, m / (u + 1) = Y := ⟨_, rfl⟩
    rw [hY] at hQn hQm
    have e1 : wrap64 Q = Q := IntWalk.wrap64_in _ (by constructor <;> omega)
    have hB0 : B ≠ 0 := by omega
    have hB1 : (B == 0) = false := beq_eq_false_iff_ne.2 hB0
    have hC := hid (base_any p u c hu w)
    rw [hB] at hC
    have HB := hid hB; have HQ := hid hQn; have HY := hid hY
    clear hR hu hB hQn hQm hY
    go_enter Try.func16, Try.ntmps16
    go_wp2_with fail
    refine hC.out.mono ?_
    rintro e w' ⟨rfl, rfl⟩
    go_wp2
    go_loopw [7, 15] (fun av jv wr => wr = w' ∧ ∃ j : Nat, j ≤ n ∧ jv = .int .i64 j ∧ av = .int .i64 (((u + 1) ^ j : Nat) : Int) ∧ (j = 0 ∨ (u + 1) ^ j ≤ m)) (fun _ jv _ => n - (intOf jv).toNat)
    case atStart => exact ⟨rfl, 0, Nat.zero_le _, rfl, rfl, .inl rfl⟩
    case round =>
      obtain ⟨rfl, j, hj, rfl, rfl, hle⟩ := hrel
      obtain ⟨A, hA⟩ : ∃ A, (u + 1) ^ j = A := ⟨_, rfl⟩
      rw [hA] at hle
      have hA1 : 1 ≤ A := by rw [← hA]; exact Nat.pow_pos (by omega)
      have hA2 : (A : Int) ≤ 9223372036854775807 := by
        rcases hle with rfl | h
        · rw [Nat.pow_zero] at hA; omega
        · omega
      rw [hA]
      have HA := hid hA; have HLE := hid hle
      clear hA hle
      by_cases hlt : j < n
      · by_cases hov : Q < (A : Int)
        · have hRm : R = (m : Int) := by
            rw [← HR.out]
            refine many_over j hlt ?_
            have h5 := HQ.out
            rw [HY.out, HA.out]
            omega
          subst hRm
          go_wp2
          go_ret
          exact ⟨rfl, rfl⟩
        · have hst := many_step (u := u) (j := j) (m := m) (by rw [HY.out, HA.out]; have := HQ.out; omega)
          obtain ⟨A2, hA2'⟩ : ∃ A2, (u + 1) ^ (j + 1) = A2 := ⟨_, rfl⟩
          have hmul : (A : Int) * B = (A2 : Int) := by
            rw [← HB.out, ← hA2', Nat.pow_succ, HA.out]
            simp
          rw [hA2'] at hst
          have hw2 : wrap64 ((A : Int) * B) = (A2 : Int) := by rw [hmul]; exact IntWalk.wrap64_in _ (by constructor <;> omega)
          have HA2 := hid hA2'; have HST := hid hst
          clear hA2' hst hmul
          go_wp2
          go_roundw
          case rel => exact ⟨trivial, j + 1, by omega, by go_num, by rw [HA2.out, hw2], .inr (by rw [HA2.out]; exact HST.out)⟩
          case measure => simp [intOf]; omega
      · obtain rfl : j = n := by omega
        have hend := HR.out
        rw [many_end, HA.out] at hend
        by_cases hc : A ≤ m
        · rw [if_pos hc] at hend
          subst hend
          have hc2 : ¬ ((m : Int) < (A : Int)) := by omega
          go_wp2
          go_ret
          exact ⟨rfl, rfl⟩
        · rw [if_neg hc] at hend
          subst hend
          have hc2 : (m : Int) < (A : Int) := by omega
          go_wp2
          go_ret
          exact ⟨rfl, rfl⟩
set_option maxRecDepth 100000 in
set_option maxHeartbeats 2000000 in
/-- The document's Many. -/
theorem rmany_any (p : Option Addr) (u c : Nat) (q : Option Addr) (n d : Nat) (most : Int) (hu : u ≤ 17592186044416) (hn : n ≤ 17592186044416) (hm : Is64 most) (w : World) :
    Calls Try.prog 17 #[.slice p u c, .slice q n d, .int .i64 most] w fun e w' => e = .returned (.int .i64 (manyO u n most)) ∧ w' = w := by
  obtain ⟨h1, h2⟩ := hm
  by_cases hneg : most < 0
  · rw [manyO_neg hneg]
    go_enter Try.func17, Try.ntmps17
    go_wp2
    go_ret
    exact ⟨rfl, rfl⟩
  · obtain ⟨m, rfl⟩ : ∃ m : Nat, most = m := ⟨most.toNat, by omega⟩
    obtain ⟨R, hR⟩ : ∃ R, manyO u n (m : Int) = R := ⟨_, rfl⟩
    rw [hR]
    have HR := hid hR
    have hnz : (n : Int) ≤ 17592186044416 := by omega
    have huz : (u : Int) ≤ 17592186044416 := by omega
    obtain ⟨Q, hQ⟩ : ∃ Q : Int, (m : Int).tdiv ((u : Int) + 1) = Q := ⟨_, rfl⟩
    have hQn : Q = ((m / (u + 1) : Nat) : Int) := by rw [← hQ]; exact quo_nat m u
    have hQm : m / (u + 1) ≤ m := Nat.div_le_self _ _
    obtain ⟨Y, hY⟩ : ∃ Y, m / (u + 1) = Y := ⟨_, rfl⟩
    rw [hY] at hQn hQm
    have e1 : wrap64 Q = Q := IntWalk.wrap64_in _ (by constructor <;> omega)
    have hB0 : (u : Int) + 1 ≠ 0 := by omega
    have hB1 : ((u : Int) + 1 == 0) = false := beq_eq_false_iff_ne.2 hB0
    have HQ := hid hQn; have HY := hid hY
    clear hR hu hQn hQm hY
    go_enter Try.func17, Try.ntmps17
    go_wp2_with fail
    go_loopw [7, 8] (fun av jv wr => wr = w ∧ ∃ j : Nat, j ≤ n ∧ jv = .int .i64 j ∧ av = .int .i64 (((u + 1) ^ j : Nat) : Int) ∧ (j = 0 ∨ (u + 1) ^ j ≤ m ∨ u = 0)) (fun _ jv _ => n - (intOf jv).toNat)
    case atStart => exact ⟨rfl, 0, Nat.zero_le _, rfl, rfl, .inl rfl⟩
    case round =>
      obtain ⟨rfl, j, hj, rfl, rfl, hle⟩ := hrel
      obtain ⟨A, hA⟩ : ∃ A, (u + 1) ^ j = A := ⟨_, rfl⟩
      rw [hA] at hle
      have hA1 : 1 ≤ A := by rw [← hA]; exact Nat.pow_pos (by omega)
      have hA2 : (A : Int) ≤ 9223372036854775807 := by
        rcases hle with rfl | h | rfl
        · rw [Nat.pow_zero] at hA; omega
        · omega
        · rw [Nat.zero_add, Nat.one_pow] at hA; omega
      rw [hA]
      have HA := hid hA; have HLE := hid hle
      clear hA hle
      by_cases hlt : j < n
      · by_cases hu0 : 0 < u
        · by_cases hov : Q < (A : Int)
          · have hRm : R = (m : Int) := by
              rw [← HR.out]
              refine many_over j hlt ?_
              have h5 := HQ.out
              rw [HY.out, HA.out]
              omega
            subst hRm
            go_wp2
            go_ret
            exact ⟨rfl, rfl⟩
          · have hst := many_step (u := u) (j := j) (m := m) (by rw [HY.out, HA.out]; have := HQ.out; omega)
            obtain ⟨A2, hA2'⟩ : ∃ A2, (u + 1) ^ (j + 1) = A2 := ⟨_, rfl⟩
            have hmul : (A : Int) * ((u : Int) + 1) = (A2 : Int) := by
              rw [← hA2', Nat.pow_succ, HA.out]
              simp
            rw [hA2'] at hst
            have hw2 : wrap64 ((A : Int) * ((u : Int) + 1)) = (A2 : Int) := by rw [hmul]; exact IntWalk.wrap64_in _ (by constructor <;> omega)
            have HA2 := hid hA2'; have HST := hid hst
            clear hA2' hst hmul
            go_wp2
            go_roundw
            case rel => exact ⟨trivial, j + 1, by omega, by go_num, by rw [HA2.out, hw2], .inr (.inl (by rw [HA2.out]; exact HST.out))⟩
            case measure => simp [intOf]; omega
        · obtain rfl : u = 0 := by omega
          have hA3 : A = 1 := by rw [← HA.out, Nat.zero_add, Nat.one_pow]
          subst hA3
          go_wp2
          go_roundw
          case rel => exact ⟨trivial, j + 1, by omega, by go_num, by rw [Nat.zero_add, Nat.one_pow]; rfl, .inr (.inr trivial)⟩
          case measure => simp [intOf]; omega
      · obtain rfl : j = n := by omega
        have hend := HR.out
        rw [many_end, HA.out] at hend
        by_cases hc : A ≤ m
        · rw [if_pos hc] at hend
          subst hend
          have hc2 : ¬ ((m : Int) < (A : Int)) := by omega
          go_wp2
          go_ret
          exact ⟨rfl, rfl⟩
        · rw [if_neg hc] at hend
          subst hend
          have hc2 : (m : Int) < (A : Int) := by omega
          go_wp2
          go_ret
          exact ⟨rfl, rfl⟩
end Go.Proofs.Ytplekhfnidhcoaa
