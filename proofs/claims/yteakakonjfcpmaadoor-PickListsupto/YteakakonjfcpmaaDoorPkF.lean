/- Fits, of the program and of the document. -/
import Derived.Test.YteakakonjfcpmaaDoorPkR
namespace Go.Proofs.YteakakonjfcpmaaDoor
open Go.RowKit

def sumE (rs : List (List Int)) (ws : List Int) (m : Int) : Int := if pkE rs ws = 0 then (if m / 2 ^ rs.length = 0 then 0 else 1) else pkE rs ws
def fitE (rs : List (List Int)) (ws : List Int) (m : Int) : Bool := (sumE rs ws m == 0) && fitW ws (sumTo m rs ws.length rs.length)
theorem sum_form {rs : List (List Int)} {ws : List Int} {m : Int} {w : World} {e : Ending} {w' : World} (h : SumEnd rs ws m w e w') :
    Below w.heap.size w w' ∧ ((sumE rs ws m ≠ 0 ∧ e = .returned (.tuple #[.slice none 0 0, .int .i64 (sumE rs ws m)])) ∨ (sumE rs ws m = 0 ∧ (sumTo m rs ws.length rs.length).length = ws.length ∧ ws.length ≤ 10 ∧ ∃ V, w.heap.size ≤ V ∧ e = .returned (.tuple #[.slice (some ⟨V, 0, none⟩) ws.length ws.length, .int .i64 0]) ∧ IRow w' V (sumTo m rs ws.length rs.length))) := by
  rcases h with ⟨hb, ⟨h1, h2⟩ | ⟨h1, h2, h3⟩ | ⟨h1, h2, V, h3, h4, h5⟩⟩
  · have e1 : sumE rs ws m = pkE rs ws := by unfold sumE; rw [if_neg h1]
    exact ⟨hb, .inl ⟨by rw [e1]; exact h1, by rw [e1]; exact h2⟩⟩
  · have e1 : sumE rs ws m = 1 := by unfold sumE; rw [if_pos h1, if_neg h2]
    exact ⟨hb, .inl ⟨by rw [e1]; decide, by rw [e1]; exact h3⟩⟩
  · have e1 : sumE rs ws m = 0 := by unfold sumE; rw [if_pos h1, if_pos h2]
    have hok := pkE_ok h1
    exact ⟨hb, .inr ⟨e1, (sumTo_ok hok _ (Nat.le_refl _)).1, hok.wide, V, h3, h4, h5⟩⟩
set_option maxRecDepth 100000 in
set_option maxHeartbeats 4000000 in
theorem pfits_any (a : Option Addr) (c : Nat) (rs : List (List Int)) (b : Option Addr) (d : Nat) (ws : List Int) (m : Int) (w : World) (hR : RowsAt w a rs) (hW : IntsAt w b ws) :
    Calls Tryd.prog 18 #[.slice a rs.length c, .slice b ws.length d, .int .u32 m] w fun e w' => e = .returned (.tuple #[.bool (fitE rs ws m), .int .i64 (sumE rs ws m)]) ∧ Below w.heap.size w w' := by
  have HS := hid (psum_any a c rs b d ws m w hR hW)
  have HW := hid hW
  have hmax : maxLen = 9223372036854775807 := rfl
  clear hR hW
  go_enter Tryd.func18, Tryd.ntmps18
  go_wp2_with fail
  refine HS.out.mono ?_
  intro e w1 hend
  obtain ⟨hb, ⟨h2, rfl⟩ | ⟨h2, h3, h4, V, h5, rfl, h6⟩⟩ := sum_form hend
  · have HB := hid hb
    have HF : Hid (fitE rs ws m = false) := hid (by unfold fitE; simp [h2])
    have hne : (sumE rs ws m != 0) = true := by simpa using h2
    clear hb hend h2
    go_wp2_with fail
    go_ret2
    exact ⟨by rw [HF.out]; rfl, HB.out⟩
  · have HB := hid hb
    have HF : Hid (fitE rs ws m = fitW ws (sumTo m rs ws.length rs.length)) := hid (by unfold fitE; rw [h2]; rfl)
    have hC := wanted_any b d ws (some ⟨V, 0, none⟩) ws.length (sumTo m rs ws.length rs.length) w1 (HW.out.below hb) (h6.ints (by omega)) h3
    rw [h3] at hC
    have HC := hid hC; have H2 := hid h2
    clear hb hend h2 hC h6
    go_wp2_with fail
    refine HC.out.mono ?_
    rintro e w2 ⟨rfl, rfl⟩
    go_wp2_with fail
    go_ret2
    exact ⟨by rw [HF.out, H2.out]; rfl, HB.out⟩
set_option maxRecDepth 100000 in
set_option maxHeartbeats 4000000 in
theorem rFits_any (a : Option Addr) (c : Nat) (rs : List (List Int)) (b : Option Addr) (d : Nat) (ws : List Int) (m : Int) (w : World) (hR : RowsAt w a rs) (hW : IntsAt w b ws) (h0 : 0 ≤ m) (h1 : m < 4294967296) :
    Calls Tryd.prog 19 #[.slice a rs.length c, .slice b ws.length d, .int .u32 m] w fun e w' => e = .returned (.tuple #[.bool (fitE rs ws m), .int .i64 (sumE rs ws m)]) ∧ Below w.heap.size w w' := by
  have HS := hid (rsum_any a c rs b d ws m w hR hW h0 h1)
  have HW := hid hW
  have hmax : maxLen = 9223372036854775807 := rfl
  clear hR hW
  go_enter Tryd.func19, Tryd.ntmps19
  go_wp2_with fail
  refine HS.out.mono ?_
  intro e w1 hend
  obtain ⟨hb, ⟨h2, rfl⟩ | ⟨h2, h3, h4, V, h5, rfl, h6⟩⟩ := sum_form hend
  · have HB := hid hb
    have HF : Hid (fitE rs ws m = false) := hid (by unfold fitE; simp [h2])
    have hne : (sumE rs ws m != 0) = true := by simpa using h2
    clear hb hend h2
    go_wp2_with fail
    go_ret2
    exact ⟨by rw [HF.out]; rfl, HB.out⟩
  · have HB := hid hb
    have HF : Hid (fitE rs ws m = fitW ws (sumTo m rs ws.length rs.length)) := hid (by unfold fitE; rw [h2]; rfl)
    have hC := rfits_any (some ⟨V, 0, none⟩) ws.length (sumTo m rs ws.length rs.length) b d ws w1 (h6.ints (by omega)) (HW.out.below hb) h3
    rw [h3] at hC
    have HC := hid hC; have H2 := hid h2
    clear hb hend h2 hC h6
    go_wp2_with fail
    refine HC.out.mono ?_
    rintro e w2 ⟨rfl, rfl⟩
    go_wp2_with fail
    go_ret2
    exact ⟨by rw [HF.out, H2.out]; rfl, HB.out⟩
end Go.Proofs.YteakakonjfcpmaaDoor
