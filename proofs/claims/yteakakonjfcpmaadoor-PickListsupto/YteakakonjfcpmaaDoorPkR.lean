/- The document's Sum, fits and Fits of layer 10; Fits of package pick. -/
import Derived.Test.YteakakonjfcpmaaDoorPkAdd
namespace Go.Proofs.YteakakonjfcpmaaDoor
open Go.RowKit

set_option maxRecDepth 100000 in
set_option maxHeartbeats 4000000 in
theorem rsum_any (a : Option Addr) (c : Nat) (rs : List (List Int)) (b : Option Addr) (d : Nat) (ws : List Int) (m : Int) (w : World) (hR : RowsAt w a rs) (hW : IntsAt w b ws) (h0 : 0 ≤ m) (h1 : m < 4294967296) :
    Calls Tryd.prog 17 #[.slice a rs.length c, .slice b ws.length d, .int .u32 m] w (SumEnd rs ws m w) := by
  have HCK := hid (rcheck_any a c rs b d ws w hR hW)
  have HAD := hid fun hO => radd_any a c rs ws.length m w hR hO h0 h1
  have hs1 := hR.small; have hs2 := hW.small
  have hmax : maxLen = 9223372036854775807 := rfl
  clear hR hW
  obtain ⟨R, hRR⟩ : ∃ R, pkE rs ws = R := ⟨_, rfl⟩
  rw [hRR] at HCK
  have HRR := hid hRR
  go_enter Tryd.func17, Tryd.ntmps17
  go_wp2_with fail
  refine HCK.out.mono ?_
  rintro e w1 ⟨rfl, rfl⟩
  clear HCK hRR
  by_cases h2 : R = 0
  · subst h2
    have OK := hid (pkE_ok HRR.out)
    have hf16 := OK.out.few
    by_cases hm : m / 2 ^ rs.length = 0
    · have HM := hid hm
      have hne : (m / 2 ^ rs.length != 0) = false := by simp [hm]
      clear hm
      go_wp2_with fail
      refine (HAD.out OK.out).mono ?_
      rintro e w2 ⟨V, hV, rfl, hI, hb⟩
      have HV := hid hV; have HI := hid hI; have HB := hid hb
      clear hV hI hb
      go_wp2_with fail
      go_ret2
      exact ⟨HB.out, .inr (.inr ⟨HRR.out, HM.out, V, HV.out, rfl, HI.out⟩)⟩
    · have HM := hid hm
      have hne : (m / 2 ^ rs.length != 0) = true := by simpa using hm
      clear hm
      go_wp2_with fail
      go_ret2
      exact ⟨Below.refl _ _, .inr (.inl ⟨HRR.out, HM.out, rfl⟩)⟩
  · have hne : (R != 0) = true := by simpa using h2
    have H0 := hid h2
    go_wp2_with fail
    go_ret2
    exact ⟨Below.refl _ _, .inl ⟨by rw [HRR.out]; exact H0.out, by rw [HRR.out]; rfl⟩⟩
set_option maxRecDepth 100000 in
set_option maxHeartbeats 4000000 in
theorem rfits_any (b : Option Addr) (d : Nat) (ss : List Int) (a : Option Addr) (c : Nat) (ws : List Int) (w : World) (hB : IntsAt w b ss) (hA : IntsAt w a ws) (hl : ss.length = ws.length) :
    Calls Tryd.prog 35 #[.slice b ss.length d, .slice a ws.length c] w fun e w' => e = .returned (.bool (fitW ws ss)) ∧ w' = w := by
  have HA := hid hA; have HB := hid hB
  have hs := hA.small
  have hmax : maxLen = 9223372036854775807 := rfl
  rw [hl]
  clear hA hB
  obtain ⟨R, hR⟩ : ∃ R, fitW ws ss = R := ⟨_, rfl⟩
  rw [hR]
  have HR := hid hR
  clear hR
  go_enter Tryd.func35, Tryd.ntmps35
  go_wp2_with fail
  go_loopw [5] (fun iv wr => ∃ j : Nat, j ≤ ws.length ∧ iv = .int .i64 j ∧ wr = w ∧ ((ws.zip ss).drop j).any (fun p => offW p.1 p.2) = !R) (fun iv _ => ws.length - (intOf iv).toNat)
  case atStart => exact ⟨0, Nat.zero_le _, rfl, rfl, by rw [← HR.out]; unfold fitW; simp⟩
  case round =>
    obtain ⟨j, hj, rfl, rfl, hm⟩ := hrel
    by_cases hlt : j < ws.length
    · obtain ⟨b1, o1, rfl, hc⟩ := HA.out.cells j hlt
      obtain ⟨b2, o2, rfl, hd⟩ := HB.out.cells j (by omega)
      rw [fitW_step hlt (by omega)] at hm
      obtain ⟨x, hx⟩ : ∃ x, ws[j] = x := ⟨_, rfl⟩
      obtain ⟨y, hy⟩ : ∃ y, ss[j]'(by omega) = y := ⟨_, rfl⟩
      rw [hx, hy, show offW x y = (((x == 1) && decide (y < 1)) || ((x == 2) && (y != 1))) from rfl] at hm
      rw [hx] at hc
      rw [hy] at hd
      have HM := hid hm
      clear hm hx hy
      cases h1 : (x == 1) with
      | true =>
        have hx1 : x = 1 := by simpa using h1
        subst hx1
        by_cases h2 : y < 1
        · have HF : Hid (R = false) := hid (by have := HM.out; simp [h2] at this; exact this.symm ▸ rfl)
          go_wp2_with fail
          go_ret
          exact ⟨by rw [HF.out]; rfl, rfl⟩
        · have HF : Hid (((ws.zip ss).drop (j + 1)).any (fun p => offW p.1 p.2) = !R) := hid (by have := HM.out; simpa [h2] using this)
          go_wp2_with fail
          go_roundw
          case rel => exact ⟨j + 1, by omega, by go_num, trivial, HF.out⟩
          case measure => simp [intOf]; omega
      | false =>
        cases h2 : (x == 2) with
        | true =>
          have hx1 : x = 2 := by simpa using h2
          subst hx1
          cases h3 : (y != 1) with
          | true =>
            have HF : Hid (R = false) := hid (by have := HM.out; rw [h3] at this; simpa using this.symm)
            go_wp2_with fail
            go_ret
            exact ⟨by rw [HF.out]; rfl, rfl⟩
          | false =>
            have HF : Hid (((ws.zip ss).drop (j + 1)).any (fun p => offW p.1 p.2) = !R) := hid (by have := HM.out; rw [h3] at this; simpa using this)
            go_wp2_with fail
            go_roundw
            case rel => exact ⟨j + 1, by omega, by go_num, trivial, HF.out⟩
            case measure => simp [intOf]; omega
        | false =>
          have HF : Hid (((ws.zip ss).drop (j + 1)).any (fun p => offW p.1 p.2) = !R) := hid (by have := HM.out; rw [h1, h2] at this; simpa using this)
          go_wp2_with fail
          go_roundw
          case rel => exact ⟨j + 1, by omega, by go_num, trivial, HF.out⟩
          case measure => simp [intOf]; omega
    · have e1 : j = ws.length := by omega
      rw [e1, List.drop_of_length_le (by rw [List.length_zip]; omega)] at hm
      have HF : Hid (R = true) := hid (by simpa using hm.symm)
      clear hm
      go_wp2
      go_ret
      exact ⟨by rw [HF.out]; rfl, rfl⟩
end Go.Proofs.YteakakonjfcpmaaDoor
