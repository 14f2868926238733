/- total, greatest, sums; the document's greatest, times, sum, Below, ahead. -/
import Derived.Test.YtbdkogccjnmfoaaLkA
namespace Go.Proofs.Ytbdkogccjnmfoaa
open Go.RowKit Go.Shelf

set_option maxRecDepth 100000 in
set_option maxHeartbeats 2000000 in
theorem total_any (p : Option Addr) (c : Nat) (ns : List Int) (w : World) (hN : IntsAt w p ns) (hn : ∀ x ∈ ns, 0 ≤ x ∧ x ≤ 1048576) (h5 : ns.length ≤ 1000) :
    Calls Try.prog 47 #[.slice p ns.length c] w fun e w' => e = .returned (.int .i64 (sumI ns)) ∧ w' = w := by
  have HN := hid hN; have HCN := hid hn
  have hmax : maxLen = 9223372036854775807 := rfl
  have hs2 := hN.small
  obtain ⟨T, hT⟩ : ∃ T, sumI ns = T := ⟨_, rfl⟩
  rw [hT]
  have HT := hid hT
  clear hN hn hT
  go_enter Try.func47, Try.ntmps47
  go_wp2_with fail
  go_loopw [3, 8] (fun sv iv wr => ∃ (j : Nat) (acc : Int), j ≤ ns.length ∧ iv = .int .i64 j ∧ sv = .int .i64 acc ∧ acc + sumI (ns.drop j) = T ∧ 0 ≤ acc ∧ acc ≤ j * 1048576 ∧ wr = w) (fun _ iv _ => ns.length - (intOf iv).toNat)
  case atStart => exact ⟨0, 0, Nat.zero_le _, rfl, rfl, by rw [← HT.out]; simp, by omega, by omega, rfl⟩
  case round =>
    obtain ⟨j, acc, hj, rfl, rfl, hf, ha0, ha1, hwr⟩ := hrel
    subst hwr
    rename World => w
    by_cases hlt : j < ns.length
    · obtain ⟨b2, o2, rfl, hc2⟩ := HN.out.cells j hlt
      rw [List.drop_eq_getElem_cons hlt, sumI] at hf
      have g2 := HCN.out _ (List.getElem_mem hlt)
      obtain ⟨m, hm⟩ : ∃ n, ns[j] = n := ⟨_, rfl⟩
      rw [hm] at hf hc2 g2
      have e2 : IntKind.i64.wrap (acc + m) = acc + m := IntWalk.i64_in _ (by constructor <;> omega)
      have HF : Hid (acc + m + sumI (ns.drop (j + 1)) = T ∧ 0 ≤ acc + m ∧ acc + m ≤ ((j + 1 : Nat) : Int) * 1048576) := hid ⟨by omega, by omega, by omega⟩
      clear hf hm
      go_wp2_with fail
      go_roundw
      case rel => exact ⟨j + 1, acc + m, by omega, by go_num, rfl, HF.out.1, HF.out.2.1, HF.out.2.2, trivial⟩
      case measure => simp [intOf]; omega
    · have e1 : j = ns.length := by omega
      rw [List.drop_eq_nil_of_le (by omega : ns.length ≤ j)] at hf
      have HF : Hid (acc = T) := hid (by have : sumI [] = 0 := rfl; omega)
      clear hf
      go_wp2_with fail
      go_ret
      exact ⟨by rw [HF.out]; rfl, rfl⟩
set_option maxRecDepth 100000 in
set_option maxHeartbeats 2000000 in
theorem greatest_any (p : Option Addr) (c : Nat) (ns : List Int) (w : World) (hN : IntsAt w p ns) :
    Calls Try.prog 48 #[.slice p ns.length c] w fun e w' => e = .returned (.int .i64 (grt ns)) ∧ w' = w := by
  have HN := hid hN
  have hmax : maxLen = 9223372036854775807 := rfl
  have hs2 := hN.small
  obtain ⟨T, hT⟩ : ∃ T, grt ns = T := ⟨_, rfl⟩
  rw [hT]
  have HT := hid hT
  clear hN hT
  go_enter Try.func48, Try.ntmps48
  go_wp2_with fail
  go_loopw [3, 8] (fun sv iv wr => ∃ (j : Nat) (acc : Int), j ≤ ns.length ∧ iv = .int .i64 j ∧ sv = .int .i64 acc ∧ (ns.drop j).foldl (fun n x => max n x) acc = T ∧ wr = w) (fun _ iv _ => ns.length - (intOf iv).toNat)
  case atStart => exact ⟨0, 0, Nat.zero_le _, rfl, rfl, by rw [← HT.out]; simp [grt], rfl⟩
  case round =>
    obtain ⟨j, acc, hj, rfl, rfl, hf, hwr⟩ := hrel
    subst hwr
    rename World => w
    by_cases hlt : j < ns.length
    · obtain ⟨b2, o2, rfl, hc2⟩ := HN.out.cells j hlt
      rw [List.drop_eq_getElem_cons hlt, List.foldl_cons] at hf
      obtain ⟨m, hm⟩ : ∃ n, ns[j] = n := ⟨_, rfl⟩
      rw [hm] at hf hc2
      have HF := hid hf
      clear hf hm
      go_wp2_with fail
      go_roundw
      case rel => exact ⟨j + 1, max acc m, by omega, by go_num, rfl, HF.out, trivial⟩
      case measure => simp [intOf]; omega
    · have e1 : j = ns.length := by omega
      rw [List.drop_eq_nil_of_le (by omega : ns.length ≤ j)] at hf
      have HF : Hid (acc = T) := hid hf
      clear hf
      go_wp2_with fail
      go_ret
      exact ⟨by rw [HF.out]; rfl, rfl⟩
set_option maxRecDepth 100000 in
set_option maxHeartbeats 2000000 in
theorem rsumI_any (p : Option Addr) (c : Nat) (ns : List Int) (w : World) (hN : IntsAt w p ns) (hn : ∀ x ∈ ns, 0 ≤ x ∧ x ≤ 1048576) (h5 : ns.length ≤ 1000) :
    Calls Try.prog 43 #[.slice p ns.length c] w fun e w' => e = .returned (.int .i64 (sumI ns)) ∧ w' = w := by
  have HN := hid hN; have HCN := hid hn
  have hmax : maxLen = 9223372036854775807 := rfl
  have hs2 := hN.small
  obtain ⟨T, hT⟩ : ∃ T, sumI ns = T := ⟨_, rfl⟩
  rw [hT]
  have HT := hid hT
  clear hN hn hT
  go_enter Try.func43, Try.ntmps43
  go_wp2_with fail
  go_loopw [3, 4] (fun sv iv wr => ∃ (j : Nat) (acc : Int), j ≤ ns.length ∧ iv = .int .i64 j ∧ sv = .int .i64 acc ∧ acc + sumI (ns.drop j) = T ∧ 0 ≤ acc ∧ acc ≤ j * 1048576 ∧ wr = w) (fun _ iv _ => ns.length - (intOf iv).toNat)
  case atStart => exact ⟨0, 0, Nat.zero_le _, rfl, rfl, by rw [← HT.out]; simp, by omega, by omega, rfl⟩
  case round =>
    obtain ⟨j, acc, hj, rfl, rfl, hf, ha0, ha1, hwr⟩ := hrel
    subst hwr
    rename World => w
    by_cases hlt : j < ns.length
    · obtain ⟨b2, o2, rfl, hc2⟩ := HN.out.cells j hlt
      rw [List.drop_eq_getElem_cons hlt, sumI] at hf
      have g2 := HCN.out _ (List.getElem_mem hlt)
      obtain ⟨m, hm⟩ : ∃ n, ns[j] = n := ⟨_, rfl⟩
      rw [hm] at hf hc2 g2
      have e2 : IntKind.i64.wrap (acc + m) = acc + m := IntWalk.i64_in _ (by constructor <;> omega)
      have HF : Hid (acc + m + sumI (ns.drop (j + 1)) = T ∧ 0 ≤ acc + m ∧ acc + m ≤ ((j + 1 : Nat) : Int) * 1048576) := hid ⟨by omega, by omega, by omega⟩
      clear hf hm
      go_wp2_with fail
      go_roundw
      case rel => exact ⟨j + 1, acc + m, by omega, by go_num, rfl, HF.out.1, HF.out.2.1, HF.out.2.2, trivial⟩
      case measure => simp [intOf]; omega
    · have e1 : j = ns.length := by omega
      rw [List.drop_eq_nil_of_le (by omega : ns.length ≤ j)] at hf
      have HF : Hid (acc = T) := hid (by have : sumI [] = 0 := rfl; omega)
      clear hf
      go_wp2_with fail
      go_ret
      exact ⟨by rw [HF.out]; rfl, rfl⟩
set_option maxRecDepth 100000 in
set_option maxHeartbeats 2000000 in
theorem rgreatest_any (p : Option Addr) (c : Nat) (ns : List Int) (w : World) (hN : IntsAt w p ns) :
    Calls Try.prog 41 #[.slice p ns.length c] w fun e w' => e = .returned (.int .i64 (grt ns)) ∧ w' = w := by
  have HN := hid hN
  have hmax : maxLen = 9223372036854775807 := rfl
  have hs2 := hN.small
  obtain ⟨T, hT⟩ : ∃ T, grt ns = T := ⟨_, rfl⟩
  rw [hT]
  have HT := hid hT
  clear hN hT
  go_enter Try.func41, Try.ntmps41
  go_wp2_with fail
  go_loopw [3, 4] (fun sv iv wr => ∃ (j : Nat) (acc : Int), j ≤ ns.length ∧ iv = .int .i64 j ∧ sv = .int .i64 acc ∧ (ns.drop j).foldl (fun n x => max n x) acc = T ∧ wr = w) (fun _ iv _ => ns.length - (intOf iv).toNat)
  case atStart => exact ⟨0, 0, Nat.zero_le _, rfl, rfl, by rw [← HT.out]; simp [grt], rfl⟩
  case round =>
    obtain ⟨j, acc, hj, rfl, rfl, hf, hwr⟩ := hrel
    subst hwr
    rename World => w
    by_cases hlt : j < ns.length
    · obtain ⟨b2, o2, rfl, hc2⟩ := HN.out.cells j hlt
      rw [List.drop_eq_getElem_cons hlt, List.foldl_cons] at hf
      obtain ⟨m, hm⟩ : ∃ n, ns[j] = n := ⟨_, rfl⟩
      rw [hm] at hf hc2
      have HF := hid hf
      clear hf hm
      go_wp2_with fail
      go_roundw
      case rel => exact ⟨j + 1, max acc m, by omega, by go_num, rfl, HF.out, trivial⟩
      case measure => simp [intOf]; omega
    · have e1 : j = ns.length := by omega
      rw [List.drop_eq_nil_of_le (by omega : ns.length ≤ j)] at hf
      have HF : Hid (acc = T) := hid hf
      clear hf
      go_wp2_with fail
      go_ret
      exact ⟨by rw [HF.out]; rfl, rfl⟩
end Go.Proofs.Ytbdkogccjnmfoaa
