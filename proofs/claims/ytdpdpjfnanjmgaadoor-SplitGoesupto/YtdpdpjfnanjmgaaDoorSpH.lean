/- The document's may and adds. -/
import Derived.Test.YtdpdpjfnanjmgaaDoorSpG
namespace Go.Proofs.YtdpdpjfnanjmgaaDoor
open Go.RowKit Go.Shelf

/-- What may answers. -/
def mayB (m k : List Int) : Bool := k.all fun x => m.any fun l => decide (x ≤ l)
set_option maxRecDepth 100000 in
set_option maxHeartbeats 4000000 in
theorem may_any (a b : Option Addr) (c d : Nat) (m k : List Int) (e : Bool) (w : World) (hM : IntsAt w a m) (hK : IntsAt w b k) :
    Calls Tryd.prog 34 #[.slice a m.length c, .slice b k.length d, .bool e] w fun en w' => en = .returned (.bool (e || mayB m k)) ∧ Below w.heap.size w w' := by
  have HM := hid hM; have HK := hid hK
  have hmax : maxLen = 9223372036854775807 := rfl
  have hs1 := hM.small; have hs2 := hK.small
  clear hM hK
  cases e with
  | true =>
    by_cases h0 : k.length = 0
    · rw [h0]
      go_enter Tryd.func34, Tryd.ntmps34
      go_wp2_with fail
      go_loopw [7] (fun i wr => i = .int .i64 0 ∧ wr = w) (fun i _ => 0)
      case atStart => exact ⟨rfl, rfl⟩
      case round =>
        obtain ⟨rfl, rfl⟩ := hrel
        go_wp2_with fail
        go_ret
        exact ⟨rfl, Below.refl _ _⟩
    · have hpos : (0 : Int) < (k.length : Int) := by omega
      go_enter Tryd.func34, Tryd.ntmps34
      go_wp2_with fail
      go_loopw [7] (fun i wr => i = .int .i64 0 ∧ wr = w) (fun i _ => 0)
      case atStart => exact ⟨rfl, rfl⟩
      case round =>
        obtain ⟨rfl, rfl⟩ := hrel
        go_wp2_with fail
        go_ret
        exact ⟨rfl, Below.refl _ _⟩
  | false =>
    obtain ⟨R, hR⟩ : ∃ R, mayB m k = R := ⟨_, rfl⟩
    rw [Bool.false_or, hR]
    have HR := hid hR
    clear hR
    go_enter Tryd.func34, Tryd.ntmps34
    go_wp2_with fail
    go_loopw [7] (fun i wr => ∃ j : Nat, j ≤ k.length ∧ i = .int .i64 j ∧ Below w.heap.size w wr ∧ mayB m (k.drop j) = R) (fun i _ => k.length - (intOf i).toNat)
    case atStart => exact ⟨0, Nat.zero_le _, rfl, Below.refl _ _, HR.out⟩
    case round =>
      obtain ⟨j, hj, rfl, hb, hm⟩ := hrel
      by_cases hlt : j < k.length
      · obtain ⟨p, o, rfl, hc⟩ := HK.out.cells j hlt
        unfold mayB at hm
        rw [List.drop_eq_getElem_cons hlt, List.all_cons] at hm
        obtain ⟨x, hx⟩ : ∃ x, k[j] = x := ⟨_, rfl⟩
        rw [hx] at hm hc
        obtain ⟨B, hB⟩ : ∃ B, (m.any fun l => decide (x ≤ l)) = B := ⟨_, rfl⟩
        rw [hB] at hm
        have HMM := hid hm; have HBB := hid hB; have HB := hid hb; have HC := hid hc
        clear hm hx hB hb hc
        go_wp2_with fail
        go_loopw [8, 9] (fun s i wr => ∃ (q : Nat) (t : Bool), q ≤ m.length ∧ s = .bool t ∧ i = .int .i64 q ∧ Below w.heap.size w wr ∧ (t || (m.drop q).any fun l => decide (x ≤ l)) = B) (fun _ i _ => m.length - (intOf i).toNat)
        case atStart => exact ⟨0, false, Nat.zero_le _, rfl, rfl, HB.out, HBB.out⟩
        case round =>
          obtain ⟨q, t, hq, rfl, rfl, hb, hm⟩ := hrel
          by_cases hlq : q < m.length
          · obtain ⟨p2, o2, rfl, hc2⟩ := (HM.out.below hb).cells q hlq
            have hc := below_cell hb _ _ HC.out
            rw [List.drop_eq_getElem_cons hlq, List.any_cons] at hm
            obtain ⟨y, hy⟩ : ∃ y, m[q] = y := ⟨_, rfl⟩
            rw [hy] at hm hc2
            cases t with
            | true =>
              have HB2 := hid hb
              have HT : Hid ((true || (m.drop (q + 1)).any fun l => decide (x ≤ l)) = B) := hid (by simpa using hm)
              clear hm hy hb
              go_wp2_with fail
              go_big_quiet (fail)
              go_wp2_with fail
              go_roundw
              case rel => exact ⟨q + 1, true, by omega, rfl, by go_num, below_drewN1 HB2.out _, HT.out⟩
              case measure => simp [intOf]; omega
            | false =>
              have HB2 := hid hb
              have HT : Hid ((decide (x ≤ y) || (m.drop (q + 1)).any fun l => decide (x ≤ l)) = B) := hid (by simpa using hm)
              clear hm hy hb
              go_wp2_with fail
              go_big_quiet (fail)
              go_wp2_with fail
              go_roundw
              case rel => exact ⟨q + 1, decide (x ≤ y), by omega, rfl, by go_num, below_drewN1 HB2.out _, HT.out⟩
              case measure => simp [intOf]; omega
          · have e1 : q = m.length := by omega
            rw [e1, List.drop_length, List.any_nil, Bool.or_false] at hm
            subst hm
            have HB2 := hid hb
            clear hb
            cases t with
            | true =>
              have HN : Hid (mayB m (k.drop (j + 1)) = R) := hid (by have := HMM.out; rw [Bool.true_and] at this; exact this)
              go_wp2_with fail
              go_roundw
              case rel => exact ⟨j + 1, by omega, by go_num, HB2.out, HN.out⟩
              case measure => simp [intOf]; omega
            | false =>
              have HN : Hid (false = R) := hid (by have := HMM.out; rw [Bool.false_and] at this; exact this)
              go_wp2_with fail
              go_ret
              exact ⟨by rw [← HN.out]; rfl, HB2.out⟩
      · have e1 : j = k.length := by omega
        rw [e1, List.drop_length] at hm
        have HN : Hid (true = R) := hid hm
        have HB := hid hb
        clear hm hb
        go_wp2_with fail
        go_ret
        exact ⟨by rw [← HN.out]; rfl, HB.out⟩
end Go.Proofs.YtdpdpjfnanjmgaaDoor
