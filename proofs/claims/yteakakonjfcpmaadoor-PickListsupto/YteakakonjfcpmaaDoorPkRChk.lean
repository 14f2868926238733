/- The document's Check of layer 10, and Same of numbers. -/
import Derived.Test.YteakakonjfcpmaaDoorPkCheck
namespace Go.Proofs.YteakakonjfcpmaaDoor
open Go.RowKit

theorem badW_is (n : Int) : badW n = (decide (n < 0) || decide (2 < n)) := by
  unfold badW
  by_cases h0 : n < 0
  · simp [h0]; omega
  · by_cases h2 : 2 < n
    · simp [h2]; omega
    · rcases (by omega : n = 0 ∨ n = 1 ∨ n = 2) with rfl | rfl | rfl <;> rfl
set_option maxRecDepth 100000 in
set_option maxHeartbeats 4000000 in
theorem rcheck_any (a : Option Addr) (c : Nat) (rs : List (List Int)) (b : Option Addr) (d : Nat) (ws : List Int) (w : World) (hR : RowsAt w a rs) (hW : IntsAt w b ws) :
    Calls Tryd.prog 16 #[.slice a rs.length c, .slice b ws.length d] w fun e w' => e = .returned (.int .i64 (pkE rs ws)) ∧ w' = w := by
  have HR := hid hR; have HW := hid hW
  have hs1 := hR.small; have hs2 := hW.small
  have hmax : maxLen = 9223372036854775807 := rfl
  clear hR hW
  obtain ⟨R, hRR⟩ : ∃ R, pkE rs ws = R := ⟨_, rfl⟩
  rw [hRR]
  unfold pkE at hRR
  by_cases h16 : 16 < rs.length
  · rw [if_pos h16] at hRR
    subst hRR
    go_enter Tryd.func16, Tryd.ntmps16
    go_wp2_with fail
    go_ret
    exact ⟨rfl, rfl⟩
  rw [if_neg h16] at hRR
  by_cases h8 : 10 < ws.length
  · rw [if_pos h8] at hRR
    subst hRR
    go_enter Tryd.func16, Tryd.ntmps16
    go_wp2_with fail
    go_ret
    exact ⟨rfl, rfl⟩
  rw [if_neg h8] at hRR
  have HRR := hid hRR
  clear hRR
  go_enter Tryd.func16, Tryd.ntmps16
  go_wp2_with fail
  go_loopw [5] (fun i wr => ∃ j : Nat, j ≤ ws.length ∧ i = .int .i64 j ∧ wr = w ∧ (ws.drop j).any badW = ws.any badW) (fun i _ => ws.length - (intOf i).toNat)
  case atStart => exact ⟨0, Nat.zero_le _, rfl, rfl, rfl⟩
  case round =>
    obtain ⟨j, hj, rfl, rfl, hm⟩ := hrel
    by_cases hlt : j < ws.length
    · obtain ⟨b1, o1, rfl, hc⟩ := HW.out.cells j hlt
      rw [List.drop_eq_getElem_cons hlt, List.any_cons, badW_is] at hm
      obtain ⟨x, hx⟩ : ∃ x, ws[j] = x := ⟨_, rfl⟩
      rw [hx] at hm hc
      have HM := hid hm
      clear hm hx
      by_cases h0 : x < 0
      · have HA : Hid (R = 102) := hid (by rw [← HRR.out, ← HM.out]; simp [h0])
        go_wp2_with fail
        go_ret
        exact ⟨by rw [HA.out]; rfl, rfl⟩
      · by_cases h2 : 2 < x
        · have HA : Hid (R = 102) := hid (by rw [← HRR.out, ← HM.out]; simp [h2])
          go_wp2_with fail
          go_ret
          exact ⟨by rw [HA.out]; rfl, rfl⟩
        · have HA : Hid ((ws.drop (j + 1)).any badW = ws.any badW) := hid (by rw [← HM.out]; simp [h0, h2])
          go_wp2_with fail
          go_roundw
          case rel => exact ⟨j + 1, by omega, by go_num, trivial, HA.out⟩
          case measure => simp [intOf]; omega
    · have e1 : j = ws.length := by omega
      rw [e1, List.drop_length] at hm
      have HA : Hid ((if rs.any (badR ws.length) = true then 103 else 0) = R) := hid (by rw [← HRR.out, ← hm]; rfl)
      clear hm HRR
      go_wp2_with fail
      go_loopw [6] (fun i wq => ∃ j : Nat, j ≤ rs.length ∧ i = .int .i64 j ∧ wq = wr ∧ (rs.drop j).any (badR ws.length) = rs.any (badR ws.length)) (fun i _ => rs.length - (intOf i).toNat)
      case atStart => exact ⟨0, Nat.zero_le _, rfl, rfl, rfl⟩
      case round =>
        obtain ⟨i, hi, rfl, rfl, hm⟩ := hrel
        by_cases hli : i < rs.length
        · obtain ⟨b2, o2, p2, c2, rfl, hc, hI⟩ := HR.out.cells i hli
          rw [List.drop_eq_getElem_cons hli, List.any_cons] at hm
          obtain ⟨r, hr⟩ : ∃ r, rs[i] = r := ⟨_, rfl⟩
          rw [hr] at hm hc hI
          have hs3 := hI.small
          have HM := hid hm; have HI := hid hI
          clear hm hr hI
          by_cases hl : r.length = ws.length
          · rw [hl] at hc
            go_wp2_with fail
            go_loopw [7] (fun kv wq => ∃ k : Nat, k ≤ ws.length ∧ kv = .int .i64 k ∧ wq = wr ∧ (r.drop k).any badC = r.any badC) (fun kv _ => ws.length - (intOf kv).toNat)
            case atStart => exact ⟨0, Nat.zero_le _, rfl, rfl, rfl⟩
            case round =>
              obtain ⟨k, hk, rfl, rfl, hm⟩ := hrel
              by_cases hlk : k < ws.length
              · obtain ⟨b3, o3, rfl, hc3⟩ := HI.out.cells k (by omega)
                rw [List.drop_eq_getElem_cons (by omega), List.any_cons] at hm
                obtain ⟨x, hx⟩ : ∃ x, r[k]'(by omega) = x := ⟨_, rfl⟩
                rw [hx] at hm hc3
                have HM3 := hid hm
                clear hm hx
                by_cases h0 : x < 0
                · have HB : Hid (R = 103) := hid (by rw [← HA.out, ← HM.out]; unfold badR; rw [← HM3.out]; simp [badC, h0])
                  go_wp2_with fail
                  go_ret
                  exact ⟨by rw [HB.out]; rfl, rfl⟩
                · by_cases h2 : 1048576 < x
                  · have HB : Hid (R = 103) := hid (by rw [← HA.out, ← HM.out]; unfold badR; rw [← HM3.out]; simp [badC, h2])
                    go_wp2_with fail
                    go_ret
                    exact ⟨by rw [HB.out]; rfl, rfl⟩
                  · have HB : Hid ((r.drop (k + 1)).any badC = r.any badC) := hid (by rw [← HM3.out]; simp [badC, h0, h2])
                    go_wp2_with fail
                    go_roundw
                    case rel => exact ⟨k + 1, by omega, by go_num, trivial, HB.out⟩
                    case measure => simp [intOf]; omega
              · have e2 : k = r.length := by omega
                rw [e2, List.drop_length] at hm
                have HB : Hid ((rs.drop (i + 1)).any (badR ws.length) = rs.any (badR ws.length)) := hid (by
                  rw [← HM.out]
                  have : badR ws.length r = false := by unfold badR; rw [← hm, hl]; simp
                  rw [this]; rfl)
                clear hm
                go_wp2_with fail
                go_roundw
                case rel => exact ⟨i + 1, by omega, by go_num, trivial, HB.out⟩
                case measure => simp [intOf]; omega
          · have hbr : badR ws.length r = true := by unfold badR; simp [hl]
            have HB : Hid (R = 103) := hid (by rw [← HA.out, ← HM.out, hbr]; rfl)
            have hne : ((r.length : Int) != (ws.length : Int)) = true := by simp; omega
            clear hbr
            go_wp2_with fail
            go_ret
            exact ⟨by rw [HB.out]; rfl, rfl⟩
        · have e1 : i = rs.length := by omega
          rw [e1, List.drop_length] at hm
          have HB : Hid (R = 0) := hid (by rw [← HA.out, ← hm]; rfl)
          clear hm
          go_wp2_with fail
          go_ret
          exact ⟨by rw [HB.out]; rfl, rfl⟩
end Go.Proofs.YteakakonjfcpmaaDoor
