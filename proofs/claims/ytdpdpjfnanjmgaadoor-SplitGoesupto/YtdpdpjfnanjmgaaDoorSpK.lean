/- Check. -/
import Derived.Test.YtdpdpjfnanjmgaaDoorSpA
namespace Go.Proofs.YtdpdpjfnanjmgaaDoor
open Go.RowKit

def badC (n : Int) : Bool := decide (n < 0) || decide (6 < n)
def badO (n : Int) : Bool := decide (n < 1) || decide (6 < n)
theorem notCount_any (n : Int) (w : World) : Calls Tryd.prog 22 #[.int .i64 n] w fun e w' => e = .returned (.bool (badC n)) ∧ w' = w := by
  unfold badC
  by_cases h0 : n < 0
  · go_enter Tryd.func22, Tryd.ntmps22
    go_wp2
    go_ret
    exact ⟨by simp [h0], rfl⟩
  · go_enter Tryd.func22, Tryd.ntmps22
    go_wp2
    go_ret
    exact ⟨by rw [show decide (n < 0) = false from decide_eq_false (by omega)]; rfl, rfl⟩
theorem notOften_any (n : Int) (w : World) : Calls Tryd.prog 23 #[.int .i64 n] w fun e w' => e = .returned (.bool (badO n)) ∧ w' = w := by
  unfold badO
  by_cases h0 : n < 1
  · go_enter Tryd.func23, Tryd.ntmps23
    go_wp2
    go_ret
    exact ⟨by simp [h0], rfl⟩
  · go_enter Tryd.func23, Tryd.ntmps23
    go_wp2
    go_ret
    exact ⟨by rw [show decide (n < 1) = false from decide_eq_false (by omega)]; rfl, rfl⟩
set_option maxRecDepth 100000 in
set_option maxHeartbeats 1000000 in
theorem indexC_any (a : Option Addr) (c : Nat) (ns : List Int) (w : World) (hN : IntsAt w a ns) :
    Calls Tryd.prog 32 #[.slice a ns.length c, .func (.func 22) #[] #[]] w fun e w' => (∃ r : Int, e = .returned (.int .i64 r) ∧ decide (0 ≤ r) = ns.any badC) ∧ w' = w := by
  have HN := hid hN
  have hmax : maxLen = 9223372036854775807 := rfl
  have hsm := hN.small
  clear hN
  go_enter Tryd.func32, Tryd.ntmps32
  go_wp2
  go_loopw [4, 5, 8] (fun _ _ i wr => ∃ j : Nat, j ≤ ns.length ∧ i = .int .i64 j ∧ wr = w ∧ (ns.drop j).any badC = ns.any badC) (fun _ _ i _ => ns.length - (intOf i).toNat)
  case atStart => exact ⟨0, Nat.zero_le _, rfl, rfl, rfl⟩
  case round =>
    obtain ⟨j, hj, rfl, rfl, hm⟩ := hrel
    by_cases hlt : j < ns.length
    · obtain ⟨b, o, rfl, hc⟩ := HN.out.cells j hlt
      rw [List.drop_eq_getElem_cons hlt, List.any_cons] at hm
      obtain ⟨x, hx⟩ : ∃ x, ns[j] = x := ⟨_, rfl⟩
      rw [hx] at hm hc
      have HM := hid hm
      obtain ⟨bv, hbv⟩ : ∃ bv, badC x = bv := ⟨_, rfl⟩
      have HC := hid (notCount_any x wr)
      rw [hbv] at HC HM
      clear hm hx hbv
      go_wp2_with fail
      refine HC.out.mono ?_
      rintro e w1 ⟨rfl, rfl⟩
      cases bv
      · go_wp2_with fail
        go_roundw
        case rel => exact ⟨j + 1, by omega, by go_num, trivial, HM.out⟩
        case measure => simp [intOf]; omega
      · go_wp2_with fail
        go_ret
        exact ⟨⟨j, rfl, by rw [← HM.out]; simp⟩, rfl⟩
    · have e1 : j = ns.length := by omega
      rw [e1, List.drop_length] at hm
      have HM := hid hm
      clear hm
      go_wp2
      go_ret
      exact ⟨⟨-1, rfl, by rw [← HM.out]; rfl⟩, rfl⟩
set_option maxRecDepth 100000 in
set_option maxHeartbeats 1000000 in
theorem containsC_any (a : Option Addr) (c : Nat) (ns : List Int) (w : World) (hN : IntsAt w a ns) :
    Calls Tryd.prog 21 #[.slice a ns.length c, .func (.func 22) #[] #[]] w fun e w' => e = .returned (.bool (ns.any badC)) ∧ w' = w := by
  have H := hid (indexC_any a c ns w hN)
  clear hN
  go_enter Tryd.func21, Tryd.ntmps21
  go_wp2_with fail
  refine H.out.mono ?_
  rintro e w1 ⟨⟨r, rfl, hr⟩, rfl⟩
  have HR := hid hr
  clear hr H
  go_wp2_with fail
  go_ret
  exact ⟨by rw [← HR.out]; rfl, rfl⟩
set_option maxRecDepth 100000 in
set_option maxHeartbeats 1000000 in
theorem indexO_any (a : Option Addr) (c : Nat) (ns : List Int) (w : World) (hN : IntsAt w a ns) :
    Calls Tryd.prog 32 #[.slice a ns.length c, .func (.func 23) #[] #[]] w fun e w' => (∃ r : Int, e = .returned (.int .i64 r) ∧ decide (0 ≤ r) = ns.any badO) ∧ w' = w := by
  have HN := hid hN
  have hmax : maxLen = 9223372036854775807 := rfl
  have hsm := hN.small
  clear hN
  go_enter Tryd.func32, Tryd.ntmps32
  go_wp2
  go_loopw [4, 5, 8] (fun _ _ i wr => ∃ j : Nat, j ≤ ns.length ∧ i = .int .i64 j ∧ wr = w ∧ (ns.drop j).any badO = ns.any badO) (fun _ _ i _ => ns.length - (intOf i).toNat)
  case atStart => exact ⟨0, Nat.zero_le _, rfl, rfl, rfl⟩
  case round =>
    obtain ⟨j, hj, rfl, rfl, hm⟩ := hrel
    by_cases hlt : j < ns.length
    · obtain ⟨b, o, rfl, hc⟩ := HN.out.cells j hlt
      rw [List.drop_eq_getElem_cons hlt, List.any_cons] at hm
      obtain ⟨x, hx⟩ : ∃ x, ns[j] = x := ⟨_, rfl⟩
      rw [hx] at hm hc
      have HM := hid hm
      obtain ⟨bv, hbv⟩ : ∃ bv, badO x = bv := ⟨_, rfl⟩
      have HC := hid (notOften_any x wr)
      rw [hbv] at HC HM
      clear hm hx hbv
      go_wp2_with fail
      refine HC.out.mono ?_
      rintro e w1 ⟨rfl, rfl⟩
      cases bv
      · go_wp2_with fail
        go_roundw
        case rel => exact ⟨j + 1, by omega, by go_num, trivial, HM.out⟩
        case measure => simp [intOf]; omega
      · go_wp2_with fail
        go_ret
        exact ⟨⟨j, rfl, by rw [← HM.out]; simp⟩, rfl⟩
    · have e1 : j = ns.length := by omega
      rw [e1, List.drop_length] at hm
      have HM := hid hm
      clear hm
      go_wp2
      go_ret
      exact ⟨⟨-1, rfl, by rw [← HM.out]; rfl⟩, rfl⟩
set_option maxRecDepth 100000 in
set_option maxHeartbeats 1000000 in
theorem containsO_any (a : Option Addr) (c : Nat) (ns : List Int) (w : World) (hN : IntsAt w a ns) :
    Calls Tryd.prog 21 #[.slice a ns.length c, .func (.func 23) #[] #[]] w fun e w' => e = .returned (.bool (ns.any badO)) ∧ w' = w := by
  have H := hid (indexO_any a c ns w hN)
  clear hN
  go_enter Tryd.func21, Tryd.ntmps21
  go_wp2_with fail
  refine H.out.mono ?_
  rintro e w1 ⟨⟨r, rfl, hr⟩, rfl⟩
  have HR := hid hr
  clear hr H
  go_wp2_with fail
  go_ret
  exact ⟨by rw [← HR.out]; rfl, rfl⟩
/-- What Check answers. -/
def chkE (m k : List Int) : Int := if 5 < m.length ∨ 5 < k.length then 192 else if m.any badC || k.any badO then 191 else 0
theorem chk_any (a b : Option Addr) (c d : Nat) (m k : List Int) (w : World) (hM : IntsAt w a m) (hK : IntsAt w b k) :
    Calls Tryd.prog 10 #[.slice a m.length c, .slice b k.length d] w fun e w' => e = .returned (.int .i64 (chkE m k)) ∧ w' = w := by
  have h1 := hid (containsC_any a c m w hM)
  have h2 := hid (containsO_any b d k w hK)
  obtain ⟨bm, hbm⟩ : ∃ x, m.any badC = x := ⟨_, rfl⟩
  obtain ⟨bk, hbk⟩ : ∃ x, k.any badO = x := ⟨_, rfl⟩
  rw [hbm] at h1
  rw [hbk] at h2
  have hs1 := hM.small; have hs2 := hK.small
  unfold chkE
  rw [hbm, hbk]
  clear hM hK hbm hbk
  unfold maxLen at hs1 hs2
  by_cases g1 : 5 < m.length
  · rw [if_pos (.inl g1)]
    go_enter Tryd.func10, Tryd.ntmps10
    go_wp2_with fail
    go_ret
    exact ⟨rfl, rfl⟩
  · by_cases g2 : 5 < k.length
    · rw [if_pos (.inr g2)]
      go_enter Tryd.func10, Tryd.ntmps10
      go_wp2_with fail
      go_ret
      exact ⟨rfl, rfl⟩
    · rw [if_neg (by omega)]
      cases bm with
      | true =>
        go_enter Tryd.func10, Tryd.ntmps10
        go_wp2_with fail
        refine h1.out.mono ?_
        rintro e w1 ⟨rfl, rfl⟩
        go_wp2_with fail
        go_ret
        exact ⟨rfl, rfl⟩
      | false =>
        cases bk with
        | true =>
          go_enter Tryd.func10, Tryd.ntmps10
          go_wp2_with fail
          refine h1.out.mono ?_
          rintro e w1 ⟨rfl, rfl⟩
          go_wp2_with fail
          refine h2.out.mono ?_
          rintro e w1 ⟨rfl, rfl⟩
          go_wp2_with fail
          go_ret
          exact ⟨rfl, rfl⟩
        | false =>
          go_enter Tryd.func10, Tryd.ntmps10
          go_wp2_with fail
          refine h1.out.mono ?_
          rintro e w1 ⟨rfl, rfl⟩
          go_wp2_with fail
          refine h2.out.mono ?_
          rintro e w1 ⟨rfl, rfl⟩
          go_wp2_with fail
          go_ret
          exact ⟨rfl, rfl⟩
/-- Numbers that are none too small. -/
def up (l : List Nat) : List Int := l.map fun x : Nat => (x : Int)
theorem up_len (l : List Nat) : (up l).length = l.length := List.length_map _
theorem up_at {l : List Nat} {i : Nat} (h : i < l.length) : (up l)[i]'(by rw [up_len]; exact h) = ((l.getD i 0 : Nat) : Int) := by
  unfold up; rw [List.getElem_map, List.getD_eq_getElem?_getD, List.getElem?_eq_getElem h]; rfl
theorem up_of {l : List Int} (h : ∀ x ∈ l, 0 ≤ x) : ∃ m : List Nat, l = up m := ⟨l.map Int.toNat, by
  unfold up
  rw [List.map_map]
  conv => lhs; rw [← List.map_id l]
  refine List.map_congr_left fun x hx => ?_
  have := h x hx
  show x = ((x.toNat : Nat) : Int)
  omega⟩
structure Fine (m k : List Nat) : Prop where
  few : m.length ≤ 5
  takers : k.length ≤ 5
  small : ∀ x ∈ m, x ≤ 6
  often : ∀ x ∈ k, 1 ≤ x ∧ x ≤ 6
theorem chk_fine {m k : List Int} (h : chkE m k = 0) : ∃ M K : List Nat, m = up M ∧ k = up K ∧ Fine M K := by
  unfold chkE at h
  split at h
  · cases h
  · rename_i g
    split at h
    · cases h
    · rename_i g2
      have g3 : m.any badC = false ∧ k.any badO = false := by simpa using g2
      have f1 : ∀ x ∈ m, 0 ≤ x ∧ x ≤ 6 := fun x hx => by
        have := List.any_eq_false.1 g3.1 x hx
        unfold badC at this
        simp at this
        omega
      have f2 : ∀ x ∈ k, 1 ≤ x ∧ x ≤ 6 := fun x hx => by
        have := List.any_eq_false.1 g3.2 x hx
        unfold badO at this
        simp at this
        omega
      obtain ⟨M, rfl⟩ := up_of fun x hx => (f1 x hx).1
      obtain ⟨K, rfl⟩ := up_of (l := k) fun x hx => by have := f2 x hx; omega
      rw [up_len, up_len] at g
      refine ⟨M, K, rfl, rfl, by omega, by omega, fun x hx => ?_, fun x hx => ?_⟩
      · have := f1 (x : Int) (List.mem_map.2 ⟨x, hx, rfl⟩); omega
      · have := f2 (x : Int) (List.mem_map.2 ⟨x, hx, rfl⟩); omega
theorem fine_chk {M K : List Nat} (h : Fine M K) : chkE (up M) (up K) = 0 := by
  unfold chkE
  rw [up_len, up_len, if_neg (by have := h.few; have := h.takers; omega), if_neg]
  rw [Bool.or_eq_true, not_or]
  constructor
  · rw [Bool.not_eq_true, List.any_eq_false]
    intro x hx
    obtain ⟨y, hy, rfl⟩ := List.mem_map.1 hx
    have := h.small y hy
    unfold badC; simp; omega
  · rw [Bool.not_eq_true, List.any_eq_false]
    intro x hx
    obtain ⟨y, hy, rfl⟩ := List.mem_map.1 hx
    have := h.often y hy
    unfold badO; simp; omega
end Go.Proofs.YtdpdpjfnanjmgaaDoor
