/- The live question that each statement of layer 3 asks first: it is answered yes. -/
import Derived.Test.YtmhdapgiealmfabTHas
import Derived.Test.YtmhdapgiealmfabTVars
import Derived.Test.YtmhdapgiealmfabTCmp
namespace Go.Proofs.Ytmhdapgiealmfab
open Go.RowKit Go.Deep

def headF : Fo := .node 0 0 (⟨#[88]⟩, 0) .nil (.node 0 0 (⟨#[]⟩, 0) .nil .nil)
theorem head_len : lenF headF = 2 := rfl
theorem head_nodes : nodesF headF = 2 := rfl
theorem head_has : hasT ⟨#[88]⟩ (⟨#[]⟩, 2) headF = true := by decide +kernel
theorem head_cmp : cmp1 (⟨#[]⟩, 2) (⟨#[88]⟩, 0) (lenF headF) (lenF .nil) (cmpF headF .nil) = 1 := by decide +kernel
theorem head_vars : varsL (⟨#[]⟩, 2) headF = [[88]] := by decide +kernel

theorem head_at (w w' : World) (h0 : w'.cell? ⟨w.heap.size, 0, none⟩ = some (.string ⟨#[88]⟩)) (h1 : w'.cell? ⟨w.heap.size, 1, none⟩ = some (.int .i64 0)) (h2 : w'.cell? ⟨w.heap.size, 2, none⟩ = some (.slice none 0 0))
    (h3 : w'.cell? ⟨w.heap.size, 3, none⟩ = some (.string ⟨#[]⟩)) (h4 : w'.cell? ⟨w.heap.size, 4, none⟩ = some (.int .i64 0)) (h5 : w'.cell? ⟨w.heap.size, 5, none⟩ = some (.slice none 0 0)) : TmAt w' (⟨#[]⟩, 2) (some ⟨w.heap.size, 0, none⟩) 2 headF :=
  ⟨⟨by decide, by decide, by decide, by decide⟩, .inr ⟨_, _, rfl, ⟨none, 0, h0, h1, h2, ⟨by decide, by decide, by decide, by decide⟩, .inl rfl⟩, ⟨none, 0, h3, h4, h5, ⟨by decide, by decide, by decide, by decide⟩, .inl rfl⟩, trivial⟩⟩

set_option maxHeartbeats 2000000 in
theorem head_any (w : World) : Calls Try.prog 4 #[] w fun e w' => e = .returned (.bool true) ∧ Below w.heap.size w w' := by
  go_enter Try.func4, Try.ntmps4
  go_wp2_with fail
  obtain ⟨W1, hW1⟩ : ∃ W1, (w.alloc (.cells #[.string ⟨#[88]⟩, .int .i64 0, .slice none 0 0, .string ⟨#[]⟩, .int .i64 0, .slice none 0 0] 24)).alloc (.cells #[.string ⟨#[]⟩, .int .i64 2, .slice (some ⟨w.heap.size, 0, none⟩) 2 2] 24) = W1 := ⟨_, rfl⟩
  have T1 : Hid (Below w.heap.size w W1) := by show Below _ _ _; rw [← hW1]; exact ((Below.refl _ w).alloc (Nat.le_refl _) _).alloc (by simp) _
  have X1 : Hid (TBox W1 (w.heap.size + 1) (⟨#[]⟩, 2) (some ⟨w.heap.size, 0, none⟩) 2 2) := by
    show TBox _ _ _ _ _ _
    have := TBox.new (w.alloc (.cells #[.string ⟨#[88]⟩, .int .i64 0, .slice none 0 0, .string ⟨#[]⟩, .int .i64 0, .slice none 0 0] 24)) (⟨#[]⟩, 2) (some ⟨w.heap.size, 0, none⟩) 2 2
    rw [World.size_alloc] at this
    rw [← hW1]; exact this
  have A1 : Hid (TmAt W1 (⟨#[]⟩, 2) (some ⟨w.heap.size, 0, none⟩) 2 headF) := by
    rw [← hW1]
    refine head_at w _ ?_ ?_ ?_ ?_ ?_ ?_ <;> simp [go_sem]
  rw [hW1]
  clear hW1
  refine (size_any (⟨#[]⟩, 2) headF (some ⟨w.heap.size, 0, none⟩) 2 W1 A1.out (by decide)).mono ?_
  rintro e w2 ⟨rfl, hb2⟩
  have T2 : Hid (Below w.heap.size w w2) := T1.out.trans (hb2.mono T1.out.size)
  have X2 : Hid (TBox w2 (w.heap.size + 1) (⟨#[]⟩, 2) (some ⟨w.heap.size, 0, none⟩) 2 2) := (hb2.block _ (Array.getElem?_eq_some_iff.1 X1.out).1).trans X1.out
  have A2 : Hid (TmAt w2 (⟨#[]⟩, 2) (some ⟨w.heap.size, 0, none⟩) 2 headF) := A1.out.below hb2
  clear T1 X1 A1 hb2
  have x0 := X2.out.c0; have x1 := X2.out.c1; have x2 := X2.out.c2
  rw [head_nodes]
  go_wp2_with fail
  refine (vars_any (⟨#[]⟩, 2) headF (some ⟨w.heap.size, 0, none⟩) 2 w2 A2.out (by decide)).mono ?_
  rintro e w3 ⟨v, rfl, hrow, hb3⟩
  rw [head_vars] at hrow
  have T3 : Hid (Below w.heap.size w w3) := T2.out.trans (hb3.mono T2.out.size)
  have X3 : Hid (TBox w3 (w.heap.size + 1) (⟨#[]⟩, 2) (some ⟨w.heap.size, 0, none⟩) 2 2) := (hb3.block _ (Array.getElem?_eq_some_iff.1 X2.out).1).trans X2.out
  have A3 : Hid (TmAt w3 (⟨#[]⟩, 2) (some ⟨w.heap.size, 0, none⟩) 2 headF) := A2.out.below hb3
  obtain ⟨g, cap, rfl⟩ := ownsRow_succ hrow
  have R3 : Hid (w3.ownsRow w2.heap.size 9 1 (.slice (some ⟨g, 0, none⟩) 1 cap) 1 [.string ⟨#[88]⟩]) := hrow
  clear T2 X2 A2 hb3 x0 x1 x2 hrow
  have x0 := X3.out.c0; have x1 := X3.out.c1; have x2 := X3.out.c2
  go_wp2_with fail
  refine (compare_all _ (⟨#[]⟩, 2) (⟨#[88]⟩, 0) (some ⟨w.heap.size, 0, none⟩) none 2 0 headF .nil w3 (Nat.le_refl _) A3.out ⟨⟨by decide, by decide, by decide, by decide⟩, .inl rfl⟩).mono ?_
  rintro e w4 ⟨he, hb4⟩
  rw [head_cmp] at he
  subst he
  have T4 : Hid (Below w.heap.size w w4) := T3.out.trans (hb4.mono T3.out.size)
  have X4 : Hid (TBox w4 (w.heap.size + 1) (⟨#[]⟩, 2) (some ⟨w.heap.size, 0, none⟩) 2 2) := (hb4.block _ (Array.getElem?_eq_some_iff.1 X3.out).1).trans X3.out
  have A4 : Hid (TmAt w4 (⟨#[]⟩, 2) (some ⟨w.heap.size, 0, none⟩) 2 headF) := A3.out.below hb4
  have r4 : w4.cell? ⟨g, 0, none⟩ = some (.string ⟨#[88]⟩) := by
    have := owns_below R3.out hb4
    obtain ⟨_, cur, hc⟩ := owns_cells this (g := g) rfl
    rcases this.2 with ⟨hv, _⟩ | ⟨g', cap', cur', hv, _, hh, _, _, _, hcur⟩
    · cases hv
    · cases hv
      rw [cell_of_row w4 g 0 cur' 9 (0, 0) hh]
      have e0 := congrArg (·[0]?) hcur
      simpa using e0
  clear T3 X3 A3 R3 hb4 x0 x1 x2
  have x0 := X4.out.c0; have x1 := X4.out.c1; have x2 := X4.out.c2
  go_wp2_with fail
  refine (has_any (⟨#[]⟩, 2) headF (some ⟨w.heap.size, 0, none⟩) 2 ⟨#[88]⟩ w4 A4.out (by decide)).mono ?_
  rintro e w5 ⟨he, hb5⟩
  rw [head_has] at he
  subst he
  have T5 : Hid (Below w.heap.size w w5) := T4.out.trans (hb5.mono T4.out.size)
  clear T4 X4 A4 hb5 x0 x1 x2
  go_wp2
  go_ret
  exact ⟨rfl, T5.out⟩
end Go.Proofs.Ytmhdapgiealmfab
