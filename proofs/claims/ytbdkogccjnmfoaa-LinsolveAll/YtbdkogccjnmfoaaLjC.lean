/- The document's Check. -/
import Derived.Test.YtbdkogccjnmfoaaLiC
namespace Go.Proofs.Ytbdkogccjnmfoaa
open Go.RowKit

theorem any_take {a : List Int} (h : ∀ x ∈ a, badK x = false) : a.any badK = false := List.any_eq_false.2 (fun x hx => by rw [h x hx]; simp)
set_option maxRecDepth 100000 in
set_option maxHeartbeats 4000000 in
theorem rcheck_any (p : Option Addr) (c : Nat) (a : List Int) (q : Option Addr) (d : Nat) (b : List Int) (w : World) (hA : IntsAt w p a) (hB : IntsAt w q b) :
    Calls Try.prog 20 #[.slice p a.length c, .slice q b.length d] w fun e w' => e = .returned (.int .i64 (chkE a b)) ∧ w' = w := by
  have HA := hid hA; have HB := hid hB
  have hs1 := hA.small; have hs2 := hB.small
  have hmax : maxLen = 9223372036854775807 := rfl
  clear hA hB
  obtain ⟨R, hRR⟩ : ∃ R, chkE a b = R := ⟨_, rfl⟩
  rw [hRR]
  have HRR := hid hRR
  unfold chkE at hRR
  by_cases h1 : 5 < a.length
  · rw [if_pos (.inl h1)] at hRR
    subst hRR
    clear HRR
    go_enter Try.func20, Try.ntmps20
    go_wp2_with fail
    go_ret
    exact ⟨rfl, rfl⟩
  by_cases h2 : 5 < b.length
  · rw [if_pos (.inr h2)] at hRR
    subst hRR
    clear HRR
    go_enter Try.func20, Try.ntmps20
    go_wp2_with fail
    go_ret
    exact ⟨rfl, rfl⟩
  rw [if_neg (by omega)] at hRR
  have HX : Hid (a.any badK = true ∨ b.any badK = true → R = 92) := hid (fun h => by rw [if_pos h] at hRR; exact hRR.symm)
  have HZ : Hid (a.any badK = false → b.any badK = false → R = 0) := hid (fun h3 h4 => by rw [if_neg (by rw [h3, h4]; simp)] at hRR; exact hRR.symm)
  clear hRR HRR
  go_enter Try.func20, Try.ntmps20
  go_wp2_with fail
  go_loopw [5] (fun i wr => ∃ j : Nat, j ≤ a.length ∧ i = .int .i64 j ∧ wr = w ∧ ∀ x ∈ a.take j, badK x = false) (fun i _ => a.length - (intOf i).toNat)
  case atStart => exact ⟨0, Nat.zero_le _, rfl, rfl, by simp⟩
  case round =>
    obtain ⟨j, hj, rfl, hwr, hall⟩ := hrel
    subst hwr
    by_cases hlt : j < a.length
    · obtain ⟨b1, o1, rfl, hc⟩ := HA.out.cells j hlt
      have HNB : Hid (badK a[j] = false → ∀ x ∈ a.take (j + 1), badK x = false) := hid (fun h1 x hx => by
        rw [List.take_add_one, List.getElem?_eq_getElem hlt] at hx
        rcases List.mem_append.1 hx with hx | hx
        · exact hall x hx
        · simp at hx; rw [hx]; exact h1)
      have HNX : Hid (badK a[j] = true → R = 92) := hid (fun h => HX.out (.inl (List.any_eq_true.2 ⟨_, List.getElem_mem hlt, h⟩)))
      obtain ⟨x, hx⟩ : ∃ x, a[j] = x := ⟨_, rfl⟩
      rw [hx] at hc HNB HNX
      clear hx hall
      by_cases h0 : x < 1
      · have HNO := hid (HNX.out (by unfold badK; simp [h0]))
        clear HNB HNX
        go_wp2_with fail
        go_ret
        exact ⟨by rw [HNO.out]; rfl, rfl⟩
      · by_cases h6 : 6 < x
        · have HNO := hid (HNX.out (by unfold badK; simp [h6]))
          clear HNB HNX
          go_wp2_with fail
          go_ret
          exact ⟨by rw [HNO.out]; rfl, rfl⟩
        · have HNN := hid (HNB.out (by unfold badK; simp; omega))
          clear HNB HNX
          go_wp2_with fail
          go_roundw
          case rel => exact ⟨j + 1, by omega, by go_num, trivial, HNN.out⟩
          case measure => simp [intOf]; omega
    · have e1 : j = a.length := by omega
      subst e1
      rw [List.take_length] at hall
      have HAA := hid (any_take hall)
      clear hall
      go_wp2_with fail
      go_loopw [6] (fun i wr2 => ∃ j : Nat, j ≤ b.length ∧ i = .int .i64 j ∧ wr2 = wr ∧ ∀ x ∈ b.take j, badK x = false) (fun i _ => b.length - (intOf i).toNat)
      case atStart => exact ⟨0, Nat.zero_le _, rfl, rfl, by simp⟩
      case round =>
        obtain ⟨j, hj, rfl, hwr, hall⟩ := hrel
        subst hwr
        by_cases hlt : j < b.length
        · obtain ⟨b1, o1, rfl, hc⟩ := HB.out.cells j hlt
          have HNB : Hid (badK b[j] = false → ∀ x ∈ b.take (j + 1), badK x = false) := hid (fun h1 x hx => by
            rw [List.take_add_one, List.getElem?_eq_getElem hlt] at hx
            rcases List.mem_append.1 hx with hx | hx
            · exact hall x hx
            · simp at hx; rw [hx]; exact h1)
          have HNX : Hid (badK b[j] = true → R = 92) := hid (fun h => HX.out (.inr (List.any_eq_true.2 ⟨_, List.getElem_mem hlt, h⟩)))
          obtain ⟨x, hx⟩ : ∃ x, b[j] = x := ⟨_, rfl⟩
          rw [hx] at hc HNB HNX
          clear hx hall
          by_cases h0 : x < 1
          · have HNO := hid (HNX.out (by unfold badK; simp [h0]))
            clear HNB HNX
            go_wp2_with fail
            go_ret
            exact ⟨by rw [HNO.out]; rfl, rfl⟩
          · by_cases h6 : 6 < x
            · have HNO := hid (HNX.out (by unfold badK; simp [h6]))
              clear HNB HNX
              go_wp2_with fail
              go_ret
              exact ⟨by rw [HNO.out]; rfl, rfl⟩
            · have HNN := hid (HNB.out (by unfold badK; simp; omega))
              clear HNB HNX
              go_wp2_with fail
              go_roundw
              case rel => exact ⟨j + 1, by omega, by go_num, trivial, HNN.out⟩
              case measure => simp [intOf]; omega
        · have e1 : j = b.length := by omega
          subst e1
          rw [List.take_length] at hall
          have HNO := hid (HZ.out HAA.out (any_take hall))
          clear hall
          go_wp2_with fail
          go_ret
          exact ⟨by rw [HNO.out]; rfl, rfl⟩
end Go.Proofs.Ytbdkogccjnmfoaa
