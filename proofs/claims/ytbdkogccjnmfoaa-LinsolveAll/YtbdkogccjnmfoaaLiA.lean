/- Lists of numbers in memory; notCount, notCoefficient, isLeft, ContainsFunc over numbers. -/
import Derived.Test.YtbdkogccjnmfoaaRows
import Derived.WalkKit
import Derived.WalkSpells
import Derived.WalkLawsBesides
import Derived.Deep.DeepCutAuto
import Derived.BigQuiet
namespace Go.Proofs.Ytbdkogccjnmfoaa
open Go.RowKit

theorem hid {P : Prop} (h : P) : Hid P := h
theorem below_cell {w w' : World} (hb : Below w.heap.size w w') : ∀ p v, w.cell? p = some v → w'.cell? p = some v := fun p v h => by
  rw [hb.cell (World.block_lt_of_cell? w p h)]; exact h
/-- The slice with this address holds these numbers. -/
structure IntsAt (w : World) (a : Option Addr) (ns : List Int) : Prop where
  small : ns.length ≤ maxLen
  cells : ∀ i (h : i < ns.length), ∃ b o, a = some ⟨b, o, none⟩ ∧ w.cell? ⟨b, o + i, none⟩ = some (.int .i64 ns[i])
theorem IntsAt.below {w w' : World} {a : Option Addr} {ns : List Int} (h : IntsAt w a ns) (hb : Below w.heap.size w w') : IntsAt w' a ns :=
  ⟨h.small, fun i hi => let ⟨b, o, h1, h2⟩ := h.cells i hi; ⟨b, o, h1, below_cell hb _ _ h2⟩⟩
/-- The slice with this address holds these rows. -/
structure RowsAt (w : World) (a : Option Addr) (rs : List (List Int)) : Prop where
  small : rs.length ≤ maxLen
  cells : ∀ i (h : i < rs.length), ∃ b o p c, a = some ⟨b, o, none⟩ ∧ w.cell? ⟨b, o + i, none⟩ = some (.slice p rs[i].length c) ∧ IntsAt w p rs[i]
theorem RowsAt.below {w w' : World} {a : Option Addr} {rs : List (List Int)} (h : RowsAt w a rs) (hb : Below w.heap.size w w') : RowsAt w' a rs :=
  ⟨h.small, fun i hi => let ⟨b, o, p, c, h1, h2, h3⟩ := h.cells i hi; ⟨b, o, p, c, h1, below_cell hb _ _ h2, h3.below hb⟩⟩
def badC (n : Int) : Bool := decide (n < 0) || decide (1048576 < n)
def badK (n : Int) : Bool := decide (n < 1) || decide (6 < n)
def leftQ (n : Int) : Bool := n != 0
theorem notCount_any (n : Int) (w : World) : Calls Try.prog 31 #[.int .i64 n] w fun e w' => e = .returned (.bool (badC n)) ∧ w' = w := by
  unfold badC
  by_cases h0 : n < 0
  · go_enter Try.func31, Try.ntmps31
    go_wp2
    go_ret
    exact ⟨by simp [h0], rfl⟩
  · go_enter Try.func31, Try.ntmps31
    go_wp2
    go_ret
    exact ⟨by rw [show decide (n < 0) = false from decide_eq_false (by omega)]; rfl, rfl⟩
theorem notCoeff_any (n : Int) (w : World) : Calls Try.prog 30 #[.int .i64 n] w fun e w' => e = .returned (.bool (badK n)) ∧ w' = w := by
  unfold badK
  by_cases h0 : n < 1
  · go_enter Try.func30, Try.ntmps30
    go_wp2
    go_ret
    exact ⟨by simp [h0], rfl⟩
  · go_enter Try.func30, Try.ntmps30
    go_wp2
    go_ret
    exact ⟨by rw [show decide (n < 1) = false from decide_eq_false (by omega)]; rfl, rfl⟩
theorem isLeft_any (n : Int) (w : World) : Calls Try.prog 34 #[.int .i64 n] w fun e w' => e = .returned (.bool (leftQ n)) ∧ w' = w := by
  unfold leftQ
  go_enter Try.func34, Try.ntmps34
  go_wp2
  go_ret
  exact ⟨rfl, rfl⟩
set_option maxRecDepth 100000 in
set_option maxHeartbeats 1000000 in
/-- The first of the numbers of which a function says so. -/
theorem indexC_any (a : Option Addr) (c : Nat) (ns : List Int) (w : World) (hN : IntsAt w a ns) :
    Calls Try.prog 51 #[.slice a ns.length c, .func (.func 31) #[] #[]] w fun e w' => (∃ r : Int, e = .returned (.int .i64 r) ∧ decide (0 ≤ r) = ns.any badC) ∧ w' = w := by
  have HN := hid hN
  have hmax : maxLen = 9223372036854775807 := rfl
  have hsm := hN.small
  clear hN
  go_enter Try.func51, Try.ntmps51
  go_wp2
  go_loopw [4, 5, 8] (fun _ _ i wr => ∃ j : Nat, j ≤ ns.length ∧ i = .int .i64 j ∧ wr = w ∧ (ns.drop j).any badC = ns.any badC) (fun _ _ i _ => ns.length - (intOf i).toNat)
  case atStart => exact ⟨0, Nat.zero_le _, rfl, rfl, rfl⟩
  case round =>
    obtain ⟨j, hj, rfl, rfl, hm⟩ := hrel
    by_cases hlt : j < ns.length
    · obtain ⟨b, o, rfl, hc⟩ := HN.out.cells j hlt
      rw [List.drop_eq_getElem_cons hlt, List.any_cons] at hm
      obtain ⟨x, hx⟩ : ∃ x, ns[j] = x := ⟨_, rfl⟩
      rw [hx] at hm hc
      have HM := hid hm
      obtain ⟨bv, hbv⟩ : ∃ bv, badC x = bv := ⟨_, rfl⟩
      have HC := hid (notCount_any x wr)
      rw [hbv] at HC HM
      clear hm hx hbv
      go_wp2_with fail
      refine HC.out.mono ?_
      rintro e w1 ⟨rfl, rfl⟩
      cases bv
      · go_wp2_with fail
        go_roundw
        case rel => exact ⟨j + 1, by omega, by go_num, trivial, HM.out⟩
        case measure => simp [intOf]; omega
      · go_wp2_with fail
        go_ret
        exact ⟨⟨j, rfl, by rw [← HM.out]; simp⟩, rfl⟩
    · have e1 : j = ns.length := by omega
      rw [e1, List.drop_length] at hm
      have HM := hid hm
      clear hm
      go_wp2
      go_ret
      exact ⟨⟨-1, rfl, by rw [← HM.out]; rfl⟩, rfl⟩
set_option maxRecDepth 100000 in
set_option maxHeartbeats 1000000 in
theorem containsC_any (a : Option Addr) (c : Nat) (ns : List Int) (w : World) (hN : IntsAt w a ns) :
    Calls Try.prog 29 #[.slice a ns.length c, .func (.func 31) #[] #[]] w fun e w' => e = .returned (.bool (ns.any badC)) ∧ w' = w := by
  have H := hid (indexC_any a c ns w hN)
  clear hN
  go_enter Try.func29, Try.ntmps29
  go_wp2_with fail
  refine H.out.mono ?_
  rintro e w1 ⟨⟨r, rfl, hr⟩, rfl⟩
  have HR := hid hr
  clear hr H
  go_wp2_with fail
  go_ret
  exact ⟨by rw [← HR.out]; rfl, rfl⟩
set_option maxRecDepth 100000 in
set_option maxHeartbeats 1000000 in
/-- The first of the numbers of which a function says so. -/
theorem indexK_any (a : Option Addr) (c : Nat) (ns : List Int) (w : World) (hN : IntsAt w a ns) :
    Calls Try.prog 51 #[.slice a ns.length c, .func (.func 30) #[] #[]] w fun e w' => (∃ r : Int, e = .returned (.int .i64 r) ∧ decide (0 ≤ r) = ns.any badK) ∧ w' = w := by
  have HN := hid hN
  have hmax : maxLen = 9223372036854775807 := rfl
  have hsm := hN.small
  clear hN
  go_enter Try.func51, Try.ntmps51
  go_wp2
  go_loopw [4, 5, 8] (fun _ _ i wr => ∃ j : Nat, j ≤ ns.length ∧ i = .int .i64 j ∧ wr = w ∧ (ns.drop j).any badK = ns.any badK) (fun _ _ i _ => ns.length - (intOf i).toNat)
  case atStart => exact ⟨0, Nat.zero_le _, rfl, rfl, rfl⟩
  case round =>
    obtain ⟨j, hj, rfl, rfl, hm⟩ := hrel
    by_cases hlt : j < ns.length
    · obtain ⟨b, o, rfl, hc⟩ := HN.out.cells j hlt
      rw [List.drop_eq_getElem_cons hlt, List.any_cons] at hm
      obtain ⟨x, hx⟩ : ∃ x, ns[j] = x := ⟨_, rfl⟩
      rw [hx] at hm hc
      have HM := hid hm
      obtain ⟨bv, hbv⟩ : ∃ bv, badK x = bv := ⟨_, rfl⟩
      have HC := hid (notCoeff_any x wr)
      rw [hbv] at HC HM
      clear hm hx hbv
      go_wp2_with fail
      refine HC.out.mono ?_
      rintro e w1 ⟨rfl, rfl⟩
      cases bv
      · go_wp2_with fail
        go_roundw
        case rel => exact ⟨j + 1, by omega, by go_num, trivial, HM.out⟩
        case measure => simp [intOf]; omega
      · go_wp2_with fail
        go_ret
        exact ⟨⟨j, rfl, by rw [← HM.out]; simp⟩, rfl⟩
    · have e1 : j = ns.length := by omega
      rw [e1, List.drop_length] at hm
      have HM := hid hm
      clear hm
      go_wp2
      go_ret
      exact ⟨⟨-1, rfl, by rw [← HM.out]; rfl⟩, rfl⟩
set_option maxRecDepth 100000 in
set_option maxHeartbeats 1000000 in
theorem containsK_any (a : Option Addr) (c : Nat) (ns : List Int) (w : World) (hN : IntsAt w a ns) :
    Calls Try.prog 29 #[.slice a ns.length c, .func (.func 30) #[] #[]] w fun e w' => e = .returned (.bool (ns.any badK)) ∧ w' = w := by
  have H := hid (indexK_any a c ns w hN)
  clear hN
  go_enter Try.func29, Try.ntmps29
  go_wp2_with fail
  refine H.out.mono ?_
  rintro e w1 ⟨⟨r, rfl, hr⟩, rfl⟩
  have HR := hid hr
  clear hr H
  go_wp2_with fail
  go_ret
  exact ⟨by rw [← HR.out]; rfl, rfl⟩
set_option maxRecDepth 100000 in
set_option maxHeartbeats 1000000 in
/-- The first of the numbers of which a function says so. -/
theorem indexQ_any (a : Option Addr) (c : Nat) (ns : List Int) (w : World) (hN : IntsAt w a ns) :
    Calls Try.prog 51 #[.slice a ns.length c, .func (.func 34) #[] #[]] w fun e w' => (∃ r : Int, e = .returned (.int .i64 r) ∧ decide (0 ≤ r) = ns.any leftQ) ∧ w' = w := by
  have HN := hid hN
  have hmax : maxLen = 9223372036854775807 := rfl
  have hsm := hN.small
  clear hN
  go_enter Try.func51, Try.ntmps51
  go_wp2
  go_loopw [4, 5, 8] (fun _ _ i wr => ∃ j : Nat, j ≤ ns.length ∧ i = .int .i64 j ∧ wr = w ∧ (ns.drop j).any leftQ = ns.any leftQ) (fun _ _ i _ => ns.length - (intOf i).toNat)
  case atStart => exact ⟨0, Nat.zero_le _, rfl, rfl, rfl⟩
  case round =>
    obtain ⟨j, hj, rfl, rfl, hm⟩ := hrel
    by_cases hlt : j < ns.length
    · obtain ⟨b, o, rfl, hc⟩ := HN.out.cells j hlt
      rw [List.drop_eq_getElem_cons hlt, List.any_cons] at hm
      obtain ⟨x, hx⟩ : ∃ x, ns[j] = x := ⟨_, rfl⟩
      rw [hx] at hm hc
      have HM := hid hm
      obtain ⟨bv, hbv⟩ : ∃ bv, leftQ x = bv := ⟨_, rfl⟩
      have HC := hid (isLeft_any x wr)
      rw [hbv] at HC HM
      clear hm hx hbv
      go_wp2_with fail
      refine HC.out.mono ?_
      rintro e w1 ⟨rfl, rfl⟩
      cases bv
      · go_wp2_with fail
        go_roundw
        case rel => exact ⟨j + 1, by omega, by go_num, trivial, HM.out⟩
        case measure => simp [intOf]; omega
      · go_wp2_with fail
        go_ret
        exact ⟨⟨j, rfl, by rw [← HM.out]; simp⟩, rfl⟩
    · have e1 : j = ns.length := by omega
      rw [e1, List.drop_length] at hm
      have HM := hid hm
      clear hm
      go_wp2
      go_ret
      exact ⟨⟨-1, rfl, by rw [← HM.out]; rfl⟩, rfl⟩
set_option maxRecDepth 100000 in
set_option maxHeartbeats 1000000 in
theorem containsQ_any (a : Option Addr) (c : Nat) (ns : List Int) (w : World) (hN : IntsAt w a ns) :
    Calls Try.prog 29 #[.slice a ns.length c, .func (.func 34) #[] #[]] w fun e w' => e = .returned (.bool (ns.any leftQ)) ∧ w' = w := by
  have H := hid (indexQ_any a c ns w hN)
  clear hN
  go_enter Try.func29, Try.ntmps29
  go_wp2_with fail
  refine H.out.mono ?_
  rintro e w1 ⟨⟨r, rfl, hr⟩, rfl⟩
  have HR := hid hr
  clear hr H
  go_wp2_with fail
  go_ret
  exact ⟨by rw [← HR.out]; rfl, rfl⟩
end Go.Proofs.Ytbdkogccjnmfoaa
