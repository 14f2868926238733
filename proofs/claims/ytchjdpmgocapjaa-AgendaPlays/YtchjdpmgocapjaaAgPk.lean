/- An agenda's Peek. -/
import Derived.Test.YtchjdpmgocapjaaAgW
namespace Go.Proofs.Ytchjdpmgocapjaa
open Go.RowKit Go.Shelf

/-- What Peek tells. -/
def peekV (L : List Th) : Value := if h : nxI L < L.length then .tuple #[.int .i64 L[nxI L].x, .int .i64 L[nxI L].tk, .bool true] else .tuple #[.int .i64 0, .int .i64 0, .bool false]
set_option maxRecDepth 100000 in
theorem peek_any {w : World} {A : Nat} {most last : Int} {L : List Th} {F : Nat → Prop} (h : AgAt w A most last L F) : Calls Try.prog 24 #[.pointer (some ⟨A, 0, none⟩)] w fun e w' => e = .returned (peekV L) ∧ Below w.heap.size w w' := by
  have HL := hid (aLen_any h)
  obtain ⟨es, v, mb, n, D, h1, h2, _⟩ := h
  by_cases h0 : L.length = 0
  · have hp : peekV L = .tuple #[.int .i64 0, .int .i64 0, .bool false] := by unfold peekV; rw [dif_neg (by omega)]
    rw [hp]
    rw [h0] at HL
    clear h1 h2 hp h0
    go_enter Try.func24, Try.ntmps24
    go_wp2_with fail
    refine HL.out.mono ?_
    rintro e w1 ⟨rfl, rfl⟩
    go_wp2_with fail
    go_ret3
    exact ⟨rfl, Below.refl _ _⟩
  · have hl := h2.len
    have hes : 0 < es.length := by omega
    obtain ⟨hn, he⟩ := h2.first hes
    have hp : peekV L = .tuple #[.int .i64 es[0].x, .int .i64 es[0].tk, .bool true] := by
      unfold peekV
      rw [dif_pos hn, ← he]
      rfl
    rw [hp]
    have hE := h1.q.ents 0 hes
    rcases h1.q with ⟨_, rfl⟩ | ⟨g, cap, rfl, hQ⟩
    · simp at hes
    · have cA := cell_box (i := 2) h1.box rfl
      have cg := hQ.cell 0 hes
      have e0 : w.drew.cell? ⟨es[0].b, 0, none⟩ = some (.int .i64 es[0].x) := cell_box hE rfl
      have e2 : w.drew.cell? ⟨es[0].b, 2, none⟩ = some (.int .i64 es[0].tk) := cell_box hE rfl
      have hne : ((L.length : Int) == 0) = false := by rw [beq_eq_false_iff_ne]; omega
      have hcap := hQ.fits
      generalize es[0] = e at *
      clear h1 h2 hp he hE hn hQ
      go_enter Try.func24, Try.ntmps24
      go_wp2_with fail
      refine HL.out.mono ?_
      rintro e w1 ⟨rfl, rfl⟩
      go_wp2_with fail
      go_region
      go_wp2_with fail
      go_ret3
      exact ⟨rfl, (Below.refl _ _).drew⟩
end Go.Proofs.Ytchjdpmgocapjaa
