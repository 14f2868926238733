/- For every signature, problem and binds, of bulk at most 1048576 together, StepGeneral returns true: Free answers a most general answer of the problem, and says so truly; the condition is the second form's bound. -/
import Derived.Test.YtfnfbljijkjkjaaGreatKUgE
namespace Go.Proofs.YtfnfbljijkjkjaaGreat
open Go.ChangeShapes Go.WideShapes Go.ChangeAt Go.RowKit Go.Deep

theorem stepGeneral_walk (x : Fg) (w : World) (hT : FgAt w x) (hs : FgSz x) : Calls Tryz.prog 4 #[.agg x.cells] w fun e w' => e = .returned (.bool true) ∧ Below w.heap.size w w' := by
  have hz := hs.all
  have hn := hs.sg
  have h1 := totB_len x.bs
  have h2 : ∀ b ∈ x.bs, nodesF b.2.2 ≤ 1048576 := fun b hb => by have := totB_mem hb; omega
  unfold Fg.cells
  cases hr : rgtB x.sg x.P with
  | false => exact gen_none x.S x.n x.cap x.sg x.P x.q x.d x.p x.pc x.bs x.P.length rfl w hT.sig hT.eqs hT.tms hT.bs (by omega) hn (by omega) h2 hr
  | true => exact gen_walk x.S x.n x.cap x.sg x.P x.q x.d x.p x.pc x.bs x.P.length rfl w hT.sig hT.eqs hT.tms hT.bs (by omega) hn (by omega) h2 hr

set_option maxRecDepth 100000 in
theorem stepGeneral_contract (H : Type) (enc : TypeId × Value → H) (W : World) (base : Nat) (args : Array Value) (ds gs : List (DataW H)) (before : List MemPlace)
    (hval : ∀ (j : Nat) t v, Tryz.f4.params[j]? = some t → args[j]? = some v → Value.okWide Tryz.prog W .any base t v)
    (hW : DataW.Whole enc Tryz.prog Tryz.f4.params.toList Rows.stepGeneralSpec.vars false W args.toList ds gs before) (hk : Rows.uptoSmall H (ds ++ gs) = true) :
    Calls Tryz.prog 4 args W fun e W' => ∃ v, e = .returned v ∧ Rows.stepGeneralSpec.post enc Tryz.prog Tryz.f4 false true false false W args v W' := by
  have hW' := hW
  obtain ⟨p, q, hA0, hV, rfl, hfz, hnd⟩ := hW
  have hA : DataW.TrodAll enc Tryz.prog W 0 (fun _ => true) true Tryz.f4.params.toList args.toList ds p := hA0
  rw [Tryz.params4] at hA hval
  obtain ⟨v0, vs0, d0, ds0, p0, q0, hargs, rfl, rfl, h0, r0⟩ := trodAll_cons hA
  obtain ⟨rfl, rfl, rfl⟩ := trodAll_nil r0
  obtain rfl : args = #[v0] := by cases args; simp_all
  obtain ⟨rfl, rfl⟩ := trodVars_none hV
  have lt0 : ∀ x ∈ p0, x.block < W.heap.size := by obtain ⟨m, hm⟩ := h0; exact DataW.trod_lt m _ _ _ hm
  have hbulk : Rows.uptoBulk d0 ≤ 1048576 := by
    have h : Rows.uptoBulkAll ([d0] ++ []) ≤ 1048576 := of_decide_eq_true hk
    simp only [List.append_nil, Rows.uptoBulkAll] at h
    omega
  obtain ⟨q, rfl, hT, hs⟩ := fg_open (hval 0 50 v0 rfl rfl) h0 hbulk
  clear hA0
  refine (stepGeneral_walk q W hT hs).mono fun e W' ⟨he, bel⟩ => ?_
  subst he
  exact ⟨_, rfl, _, _, _, [], _, [], hW', trodAll_mk1 (shut_bool Tryz.underlying4 _), (trodAll_cons_mk (Below.trod laidOut (by kernel_rfl) (of_decide_eq_true (by kernel_rfl)) h0 bel lt0) trodAll_mk0), rfl, bel.frame _, fun h => by cases h⟩

set_option maxRecDepth 100000 in
theorem stepGeneral_lifted (os : Os) (started : os.Started) (H : Type) (enc : TypeId × Value → H) (F : Stop.Interp) :
    ReturnsInHanded {} Tryz.checked os 4 .any ((Rows.OpenSpec.upto Rows.stepGeneralSpec).pre6 enc Tryz.prog Tryz.f4 Rows.stepGeneralUptoRow.domain false) (((Rows.OpenSpec.upto Rows.stepGeneralSpec).at F).post enc Tryz.prog Tryz.f4 false true false false) := by
  refine returnsInHanded_of_cond (C := Tryz.checked) (s := Rows.OpenSpec.upto Rows.stepGeneralSpec) (k := Rows.uptoSmall) rfl own started (by kernel_rfl) Tryz.func4
    (OpenSpec.witness (enc := enc) (C := Tryz.checked) (s := Rows.OpenSpec.upto Rows.stepGeneralSpec) (k := Rows.uptoSmall) rfl false ⟨#[], #[.agg #[.slice none 0 0, .slice none 0 0, .slice none 0 0]], []⟩ 8 (by kernel_rfl) (by kernel_rfl) (by kernel_rfl)
      (x := ([.agg [.nil, .nil, .nil]], [], [])) (by kernel_rfl) rfl (by kernel_rfl)) ?_
  intro W base args ds gs before hval hW _ hk _
  exact stepGeneral_contract H enc W base args ds gs before hval hW hk

set_option maxRecDepth 100000 in
theorem stepGeneral_holds : Rows.StepGeneralUptoSaid :=
  OpenClaim.holds_of_cond 4 Tryz.f4 rfl rfl rfl rfl rfl rfl rfl ⟨rfl, rfl, rfl, rfl, rfl⟩ rfl rfl rfl rfl rfl (by kernel_rfl) Tryz.func4 (by kernel_rfl)
    (of_decide_eq_true (by kernel_rfl)) (by unfold Func.isWrapper; first | (rw [if_pos (by decide +kernel)]; kernel_rfl) | (rw [if_neg (by decide +kernel)]; exact ⟨rfl, rfl⟩))
    (fun os started H enc _ F => stepGeneral_lifted os started H enc F)
end Go.Proofs.YtfnfbljijkjkjaaGreat
