/- Numbers and rows of numbers in memory; what check asks of them. -/
import Derived.Test.YtppgmepmegelbaaGreatDoorSigMem
import Derived.Test.YtppgmepmegelbaaGreatDoorTMem
import Derived.Test.YtppgmepmegelbaaGreatDoorPKind
import Derived.Deep.DeepCutAuto
namespace Go.Proofs.YtppgmepmegelbaaGreatDoor
open Go.RowKit Go.Deep

/-- The slice with this address holds these numbers. -/
structure IntsZ (w : World) (a : Option Addr) (ns : List Int) : Prop where
  small : ns.length ≤ maxLen
  cells : ∀ i (h : i < ns.length), ∃ b o, a = some ⟨b, o, none⟩ ∧ w.cell? ⟨b, o + i, none⟩ = some (.int .i64 ns[i])
theorem IntsZ.below {w w' : World} {a : Option Addr} {ns : List Int} (h : IntsZ w a ns) (hb : Below w.heap.size w w') : IntsZ w' a ns :=
  ⟨h.small, fun i hi => let ⟨b, o, h1, h2⟩ := h.cells i hi; ⟨b, o, h1, below_cell hb _ _ h2⟩⟩
/-- The slice with this address holds these rows. -/
structure RowsZ (w : World) (a : Option Addr) (rs : List (List Int)) : Prop where
  small : rs.length ≤ maxLen
  cells : ∀ i (h : i < rs.length), ∃ b o p c, a = some ⟨b, o, none⟩ ∧ w.cell? ⟨b, o + i, none⟩ = some (.slice p rs[i].length c) ∧ IntsZ w p rs[i]
theorem RowsZ.below {w w' : World} {a : Option Addr} {rs : List (List Int)} (h : RowsZ w a rs) (hb : Below w.heap.size w w') : RowsZ w' a rs :=
  ⟨h.small, fun i hi => let ⟨b, o, p, c, h1, h2, h3⟩ := h.cells i hi; ⟨b, o, p, c, h1, below_cell hb _ _ h2, h3.below hb⟩⟩
def badC (n : Int) : Bool := decide (n < 0) || decide (1048576 < n)
theorem notCount_any (n : Int) (w : World) : Calls Tryz.prog 39 #[.int .i64 n] w fun e w' => e = .returned (.bool (badC n)) ∧ w' = w := by
  unfold badC
  by_cases h0 : n < 0
  · go_enter Tryz.func39, Tryz.ntmps39
    go_wp2
    go_ret
    exact ⟨by simp [h0], rfl⟩
  · go_enter Tryz.func39, Tryz.ntmps39
    go_wp2
    go_ret
    exact ⟨by rw [show decide (n < 0) = false from decide_eq_false (by omega)]; rfl, rfl⟩
set_option maxRecDepth 100000 in
set_option maxHeartbeats 1000000 in
/-- The first of the numbers of which a function says so. -/
theorem indexC_any (a : Option Addr) (c : Nat) (ns : List Int) (w : World) (hN : IntsZ w a ns) :
    Calls Tryz.prog 62 #[.slice a ns.length c, .func (.func 39) #[] #[]] w fun e w' => (∃ r : Int, e = .returned (.int .i64 r) ∧ decide (0 ≤ r) = ns.any badC) ∧ w' = w := by
  have HN := hid hN
  have hmax : maxLen = 9223372036854775807 := rfl
  have hsm := hN.small
  clear hN
  go_enter Tryz.func62, Tryz.ntmps62
  go_wp2
  go_loopw [4, 5, 8] (fun _ _ i wr => ∃ j : Nat, j ≤ ns.length ∧ i = .int .i64 j ∧ wr = w ∧ (ns.drop j).any badC = ns.any badC) (fun _ _ i _ => ns.length - (intOf i).toNat)
  case atStart => exact ⟨0, Nat.zero_le _, rfl, rfl, rfl⟩
  case round =>
    obtain ⟨j, hj, rfl, rfl, hm⟩ := hrel
    by_cases hlt : j < ns.length
    · obtain ⟨b, o, rfl, hc⟩ := HN.out.cells j hlt
      rw [List.drop_eq_getElem_cons hlt, List.any_cons] at hm
      obtain ⟨x, hx⟩ : ∃ x, ns[j] = x := ⟨_, rfl⟩
      rw [hx] at hm hc
      have HM := hid hm
      obtain ⟨bv, hbv⟩ : ∃ bv, badC x = bv := ⟨_, rfl⟩
      have HC := hid (notCount_any x wr)
      rw [hbv] at HC HM
      clear hm hx hbv
      go_wp2_with fail
      refine HC.out.mono ?_
      rintro e w1 ⟨rfl, rfl⟩
      cases bv
      · go_wp2_with fail
        go_roundw
        case rel => exact ⟨j + 1, by omega, by go_num, trivial, HM.out⟩
        case measure => simp [intOf]; omega
      · go_wp2_with fail
        go_ret
        exact ⟨⟨j, rfl, by rw [← HM.out]; simp⟩, rfl⟩
    · have e1 : j = ns.length := by omega
      rw [e1, List.drop_length] at hm
      have HM := hid hm
      clear hm
      go_wp2
      go_ret
      exact ⟨⟨-1, rfl, by rw [← HM.out]; rfl⟩, rfl⟩
set_option maxRecDepth 100000 in
set_option maxHeartbeats 1000000 in
theorem containsC_any (a : Option Addr) (c : Nat) (ns : List Int) (w : World) (hN : IntsZ w a ns) :
    Calls Tryz.prog 38 #[.slice a ns.length c, .func (.func 39) #[] #[]] w fun e w' => e = .returned (.bool (ns.any badC)) ∧ w' = w := by
  have H := hid (indexC_any a c ns w hN)
  clear hN
  go_enter Tryz.func38, Tryz.ntmps38
  go_wp2_with fail
  refine H.out.mono ?_
  rintro e w1 ⟨⟨r, rfl, hr⟩, rfl⟩
  have HR := hid hr
  clear hr H
  go_wp2_with fail
  go_ret
  exact ⟨by rw [← HR.out]; rfl, rfl⟩

/-- May a row not be? -/
def badR (u : Nat) (r : List Int) : Bool := decide (r.length ≠ u) || r.any badC
set_option maxRecDepth 100000 in
set_option maxHeartbeats 1000000 in
theorem wrong_any (u B : Nat) (p : Option Addr) (c : Nat) (r : List Int) (w : World) (hB : Box w B 3 #[.int .i64 u]) (hN : IntsZ w p r) :
    Calls Tryz.prog 37 #[.slice p r.length c, .pointer (some ⟨B, 0, none⟩)] w fun e w' => e = .returned (.bool (badR u r)) ∧ w' = w := by
  have H := hid (containsC_any p c r w hN)
  have c0 := hB.c 0
  have hsm := hN.small
  have hmax : maxLen = 9223372036854775807 := rfl
  clear hB hN
  unfold badR
  by_cases h : r.length = u
  · have hu : (r.length : Int) = (u : Int) := by omega
    rw [show decide (r.length ≠ u) = false by simp [h], Bool.false_or]
    clear h
    go_enter Tryz.func37, Tryz.ntmps37
    go_wp2_with (go_at_call 38; refine H.out.mono ?_; rintro e w1 ⟨rfl, rfl⟩)
    go_ret
    exact ⟨rfl, rfl⟩
  · have hu : ¬ (r.length : Int) = (u : Int) := by omega
    rw [show decide (r.length ≠ u) = true by simp [h], Bool.true_or]
    clear h
    go_enter Tryz.func37, Tryz.ntmps37
    go_wp2_with fail
    go_ret
    exact ⟨rfl, rfl⟩
set_option maxRecDepth 100000 in
set_option maxHeartbeats 1000000 in
theorem total_any (a : Option Addr) (c : Nat) (rs : List (List Int)) (k : Nat) (w : World) (hN : RowsZ w a rs) (hl : ∀ r ∈ rs, k < r.length) (hs : rs.length ≤ 16) (hb : ∀ r ∈ rs, ∀ n ∈ r, 0 ≤ n ∧ n ≤ 1048576) :
    Calls Tryz.prog 42 #[.slice a rs.length c, .int .i64 k] w fun e w' => e = .returned (.int .i64 ((rs.map fun r => r.getD k 0).sum)) ∧ w' = w := by
  have HN := hid hN; have HL := hid hl; have HB := hid hb
  clear hN hl hb
  go_enter Tryz.func42, Tryz.ntmps42
  go_wp2_with fail
  go_loopw [5, 10] (fun sv i wr => ∃ (j : Nat) (s : Int), j ≤ rs.length ∧ i = .int .i64 j ∧ sv = .int .i64 s ∧ s = ((rs.take j).map fun r => r.getD k 0).sum ∧ 0 ≤ s ∧ s ≤ j * 1048576 ∧ wr = w) (fun _ i _ => rs.length - (intOf i).toNat)
  case atStart => exact ⟨0, 0, Nat.zero_le _, rfl, rfl, rfl, by omega, by omega, rfl⟩
  case round =>
    obtain ⟨j, s, hj, rfl, rfl, hsm, h0, h1, rfl⟩ := hrel
    by_cases hlt : j < rs.length
    · obtain ⟨b, o, p, c2, rfl, hc, hr⟩ := HN.out.cells j hlt
      have hm := List.getElem_mem hlt
      have hkl := HL.out _ hm
      obtain ⟨b2, o2, rfl, hk⟩ := hr.cells k hkl
      have hbd := HB.out _ hm _ (List.getElem_mem hkl)
      have htk : rs.take (j + 1) = rs.take j ++ [rs[j]] := List.take_succ_eq_append_getElem hlt
      have hnx : ((rs.take (j + 1)).map fun r => r.getD k 0).sum = s + rs[j][k] := by
        rw [htk, List.map_append, List.sum_append, ← hsm]
        simp [hkl]
      obtain ⟨x, hx⟩ : ∃ x, rs[j][k] = x := ⟨_, rfl⟩
      rw [hx] at hk hbd hnx
      obtain ⟨n, hn⟩ : ∃ n, rs[j].length = n := ⟨_, rfl⟩
      rw [hn] at hc hkl
      have HNX := hid hnx
      clear hx hnx htk hm hr hsm hn
      have hw : wrap64 (s + x) = s + x := IntWalk.wrap64_in _ (by constructor <;> omega)
      go_wp2_with fail
      go_roundw
      case rel => exact ⟨j + 1, s + x, by omega, by go_num, by first | rfl | rw [hw], HNX.out.symm, by omega, by omega, trivial⟩
      case measure => simp [intOf]; omega
    · have ht : rs.take j = rs := List.take_of_length_le (by omega)
      rw [ht] at hsm
      have HSM := hid hsm
      clear hsm
      go_wp2_with fail
      go_ret
      exact ⟨congrArg (fun z => Ending.returned (.int .i64 z)) HSM.out, rfl⟩
end Go.Proofs.YtppgmepmegelbaaGreatDoor
