/- kept: do lent rows, and the marks, read as they did? -/
import Derived.Test.YteakakonjfcpmaaDoorPkLnA
namespace Go.Proofs.YteakakonjfcpmaaDoor
open Go.RowKit Go.Shelf

set_option maxRecDepth 100000 in
set_option maxHeartbeats 4000000 in
theorem kept_any (base g : Nat) (rs : List (List Int)) (b : Option Addr) (d : Nat) (w : World) (hL : LentAt w base g rs) (hR : RowsAt w b rs) :
    Calls Tryd.prog 24 #[.slice (some ⟨g, 0, none⟩) rs.length (rs.length + 1), .slice b rs.length d] w fun e w' => e = .returned (.bool true) ∧ Below w.heap.size w w' := by
  have hmax : maxLen = 9223372036854775807 := rfl
  have hsm := hL.small
  have HS := hid (sameAll_any (some ⟨g, 0, none⟩) (rs.length + 1) rs b d rs w hL.rows hR)
  rw [decide_eq_true rfl] at HS
  have HL := hid hL
  clear hL hR
  go_enter Tryd.func24, Tryd.ntmps24
  go_wp2_with fail
  refine HS.out.mono ?_
  rintro e w1 ⟨rfl, hb1⟩
  have HB1 := hid hb1
  clear hb1 HS
  go_wp2_with fail
  go_loopw [6] (fun iv wr => ∃ i : Nat, i ≤ rs.length ∧ iv = .int .i64 i ∧ Below w.heap.size w wr) (fun iv _ => rs.length - (intOf iv).toNat)
  case atStart => exact ⟨0, Nat.zero_le _, rfl, HB1.out⟩
  case round =>
    obtain ⟨i, hi, rfl, hb⟩ := hrel
    have HB := hid hb
    obtain ⟨vs, gm, h1, h2, h3, h4, h5⟩ := (HL.out.below hb.drew).out
    by_cases hlt : i < rs.length
    · obtain ⟨gi, k1, k2, k3⟩ := h5 i hlt
      have hrl := HL.out.rowS rs[i] (List.getElem_mem hlt)
      have c1 : wr.drew.cell? ⟨g, i, none⟩ = some (.slice (some ⟨gi, 0, none⟩) rs[i].length (rs[i].length + 1)) := cell_box h2 (by rw [List.getElem?_toArray, List.getElem?_append_left (by omega)]; exact k1)
      have c2 : wr.drew.cell? ⟨gi, rs[i].length, none⟩ = some (.int .i64 77) := cell_box k3 (by rw [List.getElem?_toArray, List.getElem?_append_right (by rw [cAll_len]; exact Nat.le_refl _), cAll_len, Nat.sub_self]; rfl)
      obtain ⟨n, hn⟩ : ∃ n, rs[i].length = n := ⟨_, rfl⟩
      rw [hn] at c1 c2 hrl
      have hw1 : IntKind.i64.wrap ((n : Int) + 1) = (n : Int) + 1 := IntWalk.i64_in _ (by constructor <;> omega)
      clear hb h1 h2 h3 h4 h5 k1 k2 k3 hn
      go_wp2_with fail
      go_region
      all_goals
        go_wp2_with fail
        go_roundw
        case rel => exact ⟨i + 1, by omega, by go_num, HB.out.drew⟩
        case measure => simp [intOf]; omega
    · have e1 : i = rs.length := by omega
      subst e1
      have c1 : wr.cell? ⟨g, rs.length, none⟩ = some (.slice (some ⟨gm, 0, none⟩) 1 1) := cell_box (W := wr) h2 (by rw [List.getElem?_toArray, List.getElem?_append_right (by omega), h1, Nat.sub_self]; rfl)
      have hw1 : IntKind.i64.wrap ((rs.length : Int) + 1) = (rs.length : Int) + 1 := IntWalk.i64_in _ (by constructor <;> omega)
      clear hb h1 h2 h3 h4 h5
      go_wp2_with fail
      go_ret
      exact ⟨rfl, HB.out⟩
end Go.Proofs.YteakakonjfcpmaaDoor
