/- wanted and Fits of package pick; the document's fits. -/
import Derived.Test.YteakakonjfcpmaaDoorPkSumA
namespace Go.Proofs.YteakakonjfcpmaaDoor
open Go.RowKit

/-- A column's sum is none that is wanted. -/
def offW (w s : Int) : Bool := ((w == 1) && decide (s < 1)) || ((w == 2) && (s != 1))
def fitW (ws ss : List Int) : Bool := !((ws.zip ss).any fun p => offW p.1 p.2)
theorem IRow.ints {W : World} {V : Nat} {vs : List Int} (h : IRow W V vs) (hn : vs.length ≤ maxLen) : IntsAt W (some ⟨V, 0, none⟩) vs :=
  ⟨hn, fun i hi => ⟨V, 0, rfl, by rw [Nat.zero_add]; exact h.cell hi⟩⟩
theorem fitW_step {ws ss : List Int} {j : Nat} (h : j < ws.length) (h' : j < ss.length) : ((ws.zip ss).drop j).any (fun p => offW p.1 p.2) = (offW ws[j] ss[j] || ((ws.zip ss).drop (j + 1)).any (fun p => offW p.1 p.2)) := by
  rw [List.drop_eq_getElem_cons (by rw [List.length_zip]; omega), List.any_cons, List.getElem_zip]
set_option maxRecDepth 100000 in
set_option maxHeartbeats 4000000 in
theorem wanted_any (a : Option Addr) (c : Nat) (ws : List Int) (b : Option Addr) (d : Nat) (ss : List Int) (w : World) (hA : IntsAt w a ws) (hB : IntsAt w b ss) (hl : ss.length = ws.length) :
    Calls Tryd.prog 34 #[.slice a ws.length c, .slice b ss.length d] w fun e w' => e = .returned (.bool (fitW ws ss)) ∧ w' = w := by
  have HA := hid hA; have HB := hid hB
  have hs := hA.small
  have hmax : maxLen = 9223372036854775807 := rfl
  rw [hl]
  clear hA hB
  obtain ⟨R, hR⟩ : ∃ R, fitW ws ss = R := ⟨_, rfl⟩
  rw [hR]
  have HR := hid hR
  clear hR
  go_enter Tryd.func34, Tryd.ntmps34
  go_wp2_with fail
  go_loopw [9] (fun iv wr => ∃ j : Nat, j ≤ ws.length ∧ iv = .int .i64 j ∧ wr = w ∧ ((ws.zip ss).drop j).any (fun p => offW p.1 p.2) = !R) (fun iv _ => ws.length - (intOf iv).toNat)
  case atStart => exact ⟨0, Nat.zero_le _, rfl, rfl, by rw [← HR.out]; unfold fitW; simp⟩
  case round =>
    obtain ⟨j, hj, rfl, rfl, hm⟩ := hrel
    by_cases hlt : j < ws.length
    · obtain ⟨b1, o1, rfl, hc⟩ := HA.out.cells j hlt
      obtain ⟨b2, o2, rfl, hd⟩ := HB.out.cells j (by omega)
      rw [fitW_step hlt (by omega)] at hm
      obtain ⟨x, hx⟩ : ∃ x, ws[j] = x := ⟨_, rfl⟩
      obtain ⟨y, hy⟩ : ∃ y, ss[j]'(by omega) = y := ⟨_, rfl⟩
      rw [hx, hy, show offW x y = (((x == 1) && decide (y < 1)) || ((x == 2) && (y != 1))) from rfl] at hm
      rw [hx] at hc
      rw [hy] at hd
      have HM := hid hm
      clear hm hx hy
      cases h1 : (x == 1) with
      | true =>
        have hx1 : x = 1 := by simpa using h1
        subst hx1
        by_cases h2 : y < 1
        · have HF : Hid (R = false) := hid (by have := HM.out; simp [h2] at this; exact this.symm ▸ rfl)
          go_wp2_with fail
          go_ret
          exact ⟨by rw [HF.out]; rfl, rfl⟩
        · have HF : Hid (((ws.zip ss).drop (j + 1)).any (fun p => offW p.1 p.2) = !R) := hid (by have := HM.out; simpa [h2] using this)
          go_wp2_with fail
          go_roundw
          case rel => exact ⟨j + 1, by omega, by go_num, trivial, HF.out⟩
          case measure => simp [intOf]; omega
      | false =>
        cases h2 : (x == 2) with
        | true =>
          have hx1 : x = 2 := by simpa using h2
          subst hx1
          cases h3 : (y != 1) with
          | true =>
            have HF : Hid (R = false) := hid (by have := HM.out; rw [h3] at this; simpa using this.symm)
            go_wp2_with fail
            go_ret
            exact ⟨by rw [HF.out]; rfl, rfl⟩
          | false =>
            have HF : Hid (((ws.zip ss).drop (j + 1)).any (fun p => offW p.1 p.2) = !R) := hid (by have := HM.out; rw [h3] at this; simpa using this)
            go_wp2_with fail
            go_roundw
            case rel => exact ⟨j + 1, by omega, by go_num, trivial, HF.out⟩
            case measure => simp [intOf]; omega
        | false =>
          have HF : Hid (((ws.zip ss).drop (j + 1)).any (fun p => offW p.1 p.2) = !R) := hid (by have := HM.out; rw [h1, h2] at this; simpa using this)
          go_wp2_with fail
          go_roundw
          case rel => exact ⟨j + 1, by omega, by go_num, trivial, HF.out⟩
          case measure => simp [intOf]; omega
    · have e1 : j = ws.length := by omega
      rw [e1, List.drop_of_length_le (by rw [List.length_zip]; omega)] at hm
      have HF : Hid (R = true) := hid (by simpa using hm.symm)
      clear hm
      go_wp2
      go_ret
      exact ⟨by rw [HF.out]; rfl, rfl⟩
end Go.Proofs.YteakakonjfcpmaaDoor
