/- The statements' live question. -/
import Derived.Test.YtchjdpmgocapjaaAgWe
namespace Go.Proofs.Ytchjdpmgocapjaa
open Go.RowKit Go.Shelf

/-- An agenda that lies above all that was there ahead. -/
theorem AgEnd.up {w0 w w' : World} {A : Nat} {most last : Int} {L : List Th} {F : Nat → Prop} (h : AgEnd w w' A most last L F) (hb : Below w0.heap.size w0 w) (hF : ∀ b, F b → w0.heap.size ≤ b) : ∃ F', AgAt w' A most last L F' ∧ Below w0.heap.size w0 w' ∧ ∀ b, F' b → w0.heap.size ≤ b := by
  obtain ⟨F', h1, h2, h3⟩ := h
  have s := hb.size
  exact ⟨F', h1, hb.trans (h2.below hF s), fun b hx => (h3 b hx).elim (hF b) (fun h => by omega)⟩
set_option maxRecDepth 100000 in
theorem lives_any (w : World) : Calls Try.prog 7 #[] w fun e w' => e = .returned (.bool true) ∧ Below w.heap.size w w' := by
  go_enter Try.func7, Try.ntmps7
  go_wp2_with fail
  refine (new_any 3 (by omega) (by omega) w).mono ?_
  rintro e w1 ⟨A, F, rfl, hA, hb1, hF⟩
  have HA := hid hA; have HB1 := hid hb1; have HF := hid hF
  clear hA hb1 hF
  go_wp2_with fail
  refine (push_more HA.out 7 5 (by simp) (by omega)).mono ?_
  rintro e w2 ⟨rfl, he⟩
  obtain ⟨F2, hA2, hb2, hF2⟩ := he.up HB1.out HF.out
  have HA2 := hid hA2; have HB2 := hid hb2; have HF2 := hid hF2
  clear he hA2 hb2 hF2 HA HB1 HF
  go_wp2_with fail
  refine (push_more HA2.out 8 2 (by simp) (by omega)).mono ?_
  rintro e w3 ⟨rfl, he⟩
  obtain ⟨F3, hA3, hb3, hF3⟩ := he.up HB2.out HF2.out
  have HA3 := hid hA3; have HB3 := hid hb3; have HF3 := hid hF3
  clear he hA3 hb3 hF3 HA2 HB2 HF2
  go_wp2_with fail
  refine (peek_any HA3.out).mono ?_
  rintro e w4 ⟨rfl, hb4⟩
  have hv : peekV ([] ++ [⟨7, 5, 0 + 1⟩] ++ [⟨8, 2, 0 + 1 + 1⟩]) = .tuple #[.int .i64 8, .int .i64 2, .bool true] := rfl
  rw [hv]
  have HB4 := hid (HB3.out.trans (hb4.mono HB3.out.size))
  clear hb4 HA3 HB3 HF3
  go_wp2_with fail
  go_ret
  exact ⟨rfl, HB4.out⟩
end Go.Proofs.Ytchjdpmgocapjaa
