/- Check of package pick. -/
import Derived.Test.YteakakonjfcpmaaDoorPkA
namespace Go.Proofs.YteakakonjfcpmaaDoor
open Go.RowKit

def badR (n : Nat) (r : List Int) : Bool := (r.length != n) || r.any badC
/-- What may not be of rows and wants. -/
def pkE (rs : List (List Int)) (ws : List Int) : Int :=
  if 16 < rs.length then 101 else if 10 < ws.length then 102 else if ws.any badW = true then 102 else if rs.any (badR ws.length) = true then 103 else 0
set_option maxRecDepth 100000 in
set_option maxHeartbeats 2000000 in
theorem pcheck_any (a : Option Addr) (c : Nat) (rs : List (List Int)) (b : Option Addr) (d : Nat) (ws : List Int) (w : World) (hR : RowsAt w a rs) (hW : IntsAt w b ws) :
    Calls Tryd.prog 12 #[.slice a rs.length c, .slice b ws.length d] w fun e w' => e = .returned (.int .i64 (pkE rs ws)) ∧ w' = w := by
  have HR := hid hR
  have HCW := hid (containsW_any b d ws w hW)
  have hs1 := hR.small; have hs2 := hW.small
  have hmax : maxLen = 9223372036854775807 := rfl
  clear hR hW
  obtain ⟨R, hRR⟩ : ∃ R, pkE rs ws = R := ⟨_, rfl⟩
  rw [hRR]
  unfold pkE at hRR
  by_cases h16 : 16 < rs.length
  · rw [if_pos h16] at hRR
    subst hRR
    go_enter Tryd.func12, Tryd.ntmps12
    go_wp2_with fail
    go_ret
    exact ⟨rfl, rfl⟩
  rw [if_neg h16] at hRR
  by_cases h8 : 10 < ws.length
  · rw [if_pos h8] at hRR
    subst hRR
    go_enter Tryd.func12, Tryd.ntmps12
    go_wp2_with fail
    go_ret
    exact ⟨rfl, rfl⟩
  rw [if_neg h8] at hRR
  cases hbw : ws.any badW with
  | true =>
    rw [hbw, if_pos rfl] at hRR
    subst hRR
    rw [hbw] at HCW
    go_enter Tryd.func12, Tryd.ntmps12
    go_wp2_with fail
    refine HCW.out.mono ?_
    rintro e w1 ⟨rfl, rfl⟩
    go_wp2_with fail
    go_ret
    exact ⟨rfl, rfl⟩
  | false =>
  rw [hbw, if_neg (by simp)] at hRR
  rw [hbw] at HCW
  have HRR := hid hRR
  clear hRR hbw
  go_enter Tryd.func12, Tryd.ntmps12
  go_wp2_with fail
  refine HCW.out.mono ?_
  rintro e w1 ⟨rfl, rfl⟩
  clear HCW
  go_wp2_with fail
  go_loopw [19] (fun i wr => ∃ j : Nat, j ≤ rs.length ∧ i = .int .i64 j ∧ wr = w1 ∧ (rs.drop j).any (badR ws.length) = rs.any (badR ws.length)) (fun i _ => rs.length - (intOf i).toNat)
  case atStart => exact ⟨0, Nat.zero_le _, rfl, rfl, rfl⟩
  case round =>
    obtain ⟨j, hj, rfl, rfl, hm⟩ := hrel
    by_cases hlt : j < rs.length
    · obtain ⟨b1, o1, p1, c1, rfl, hc, hI⟩ := HR.out.cells j hlt
      rw [List.drop_eq_getElem_cons hlt, List.any_cons] at hm
      obtain ⟨r, hr⟩ : ∃ r, rs[j] = r := ⟨_, rfl⟩
      rw [hr] at hm hc hI
      have hs3 := hI.small
      have HM := hid hm
      have HC := hid (containsC_any p1 c1 r wr hI)
      clear hm hr hI
      by_cases hl : r.length = ws.length
      · rw [hl] at HC
        cases hb : r.any badC with
        | true =>
          have hbr : badR ws.length r = true := by unfold badR; rw [hb]; simp
          have HA : Hid (R = 103) := hid (by rw [← HRR.out, ← HM.out, hbr]; rfl)
          rw [hb] at HC
          clear hbr hb
          go_wp2_with fail
          refine HC.out.mono ?_
          rintro e w2 ⟨rfl, rfl⟩
          go_wp2_with fail
          go_ret
          exact ⟨by rw [HA.out]; rfl, rfl⟩
        | false =>
          have hbr : badR ws.length r = false := by unfold badR; rw [hb, hl]; simp
          have HA : Hid ((rs.drop (j + 1)).any (badR ws.length) = rs.any (badR ws.length)) := hid (by rw [← HM.out, hbr]; rfl)
          rw [hb] at HC
          clear hbr hb
          go_wp2_with fail
          refine HC.out.mono ?_
          rintro e w2 ⟨rfl, rfl⟩
          go_wp2_with fail
          go_roundw
          case rel => exact ⟨j + 1, by omega, by go_num, trivial, HA.out⟩
          case measure => simp [intOf]; omega
      · have hbr : badR ws.length r = true := by unfold badR; simp [hl]
        have HA : Hid (R = 103) := hid (by rw [← HRR.out, ← HM.out, hbr]; rfl)
        have hne : ((r.length : Int) != (ws.length : Int)) = true := by simp; omega
        clear hbr
        go_wp2_with fail
        go_ret
        exact ⟨by rw [HA.out]; rfl, rfl⟩
    · have e1 : j = rs.length := by omega
      rw [e1, List.drop_length] at hm
      have HA : Hid (R = 0) := hid (by rw [← HRR.out, ← hm]; rfl)
      clear hm
      go_wp2
      go_ret
      exact ⟨by rw [HA.out]; rfl, rfl⟩
end Go.Proofs.YteakakonjfcpmaaDoor
