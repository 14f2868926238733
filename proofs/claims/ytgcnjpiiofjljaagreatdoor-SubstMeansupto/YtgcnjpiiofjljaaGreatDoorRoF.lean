/- What a statement with strconv's table is asked about, opened with the number's range; what the listed variables give. -/
import Derived.Test.YtgcnjpiiofjljaaGreatDoorSOp
import Derived.Test.YtgcnjpiiofjljaaGreatDoorRnT
import Derived.Test.YtgcnjpiiofjljaaGreatDoorCards
import Derived.Test.YtgcnjpiiofjljaaGreatDoorTie
import Derived.ProofKit
import Derived.OpenShut
import Derived.Deep.DeepHandedRow
import Derived.Lib.LaidTab
import Derived.WideKeyPair
import Derived.LaidSub
import Derived.LaidLaws
import Derived.LaidMore
namespace Go.Proofs.YtgcnjpiiofjljaaGreatDoor
open Go.ChangeShapes Go.WideShapes Go.ChangeAt Go.RowKit Go.Deep

set_option maxRecDepth 100000 in
theorem some_open3 {H : Type} {enc : TypeId × Value → H} {W : World} {r : Reach} {b0 : Nat} {v : Value} {dd : DataW H} {ps : List MemPlace} (hv : Value.okWide Tryz.prog W r b0 30 v)
    (h : DataW.Trod enc Tryz.prog W 0 (fun _ => true) true 30 v dd ps) (hz : Rows.uptoBulk dd ≤ 1048576) : ∃ q : Sm, v = .agg q.cells ∧ SmAt W q ∧ SmSz q ∧ -9223372036854775808 ≤ q.f ∧ q.f ≤ 9223372036854775807 := by
  obtain ⟨cs, rfl, hsz⟩ := okWide_struct Tryz.underlying30 hv
  obtain ⟨fuel, hf⟩ := h
  obtain ⟨xs, n, hfuel, hx, hl, hlen, hff⟩ := DataW.trod_struct Tryz.underlying30 hf
  rw [Tryz.cells30] at hsz
  simp only [Value.cells] at hff hl
  obtain ⟨cl⟩ := cs
  match xs, hlen, cl, hsz with
  | [y0, y1, y2, y3, y4, y5], _, [v0, v1, v2, v3, v4, v5, v6, v7], _ =>
    have g0 := hff 0 _ rfl
    have g1 := hff 1 _ rfl
    have g2 := hff 2 _ rfl
    have g3 := hff 3 _ rfl
    have g4 := hff 4 _ rfl
    have g5 := hff 5 _ rfl
    simp [Tryz.cells23, Tryz.cells24, Tryz.cells27, Tryz.cells28, Tryz.cells3] at g0 g1 g2 g3 g4 g5
    have hd : Rows.uptoBulk y0.1 + Rows.uptoBulk y1.1 + Rows.uptoBulk y2.1 + Rows.uptoBulk y3.1 + Rows.uptoBulk y4.1 + Rows.uptoBulk y5.1 + 1 ≤ 1048576 := by
      have := congrArg Prod.fst hx
      simp only at this
      rw [this] at hz
      simp only [List.map_cons, List.map_nil, Rows.uptoBulk, Rows.uptoBulkAll] at hz
      omega
    obtain ⟨S, len, cap, l, rfl, hS⟩ := sig_open g0
    obtain ⟨pa, ca, as', rfl, hA, nA⟩ := binds_open g1 (by omega)
    obtain ⟨pb, cb, bs, rfl, hB, nB⟩ := binds_open g2 (by omega)
    obtain ⟨pt, a, c, la, ea, hT, nT⟩ := term_open n _ _ g3 (.inr (by omega))
    obtain ⟨pn, cn, ns, rfl, hN, nN⟩ := strs_open g4
    obtain ⟨f, e5, _, hwf⟩ := DataW.trod_int Tryz.underlying3 g5
    have hfr : -9223372036854775808 ≤ f ∧ f ≤ 9223372036854775807 := by
      simp only [Lit.wf, Bool.and_eq_true, decide_eq_true_eq] at hwf
      exact hwf
    simp at ea e5
    obtain ⟨rfl, rfl, rfl⟩ := ea
    subst e5
    have := bulk_pos y0.1
    have := bulk_pos y5.1
    refine ⟨⟨S, len, cap, l, pa, ca, as', pb, cb, bs, (pt, la), a, c, pn, cn, ns, f⟩, rfl, ⟨hS, hA, hB, hT, hN⟩, ⟨?_⟩, hfr⟩
    show totB as' + totB bs + nodesF la + ns.length + 4 ≤ _
    omega

theorem gPowType : (Tryz.prog.globals[0]?).map (·.type) = some 133 := by kernel_rfl
theorem Tryz.cells55 : Tryz.prog.cellsOf 55 = 1 := by kernel_rfl
theorem Tryz.cells133 : Tryz.prog.cellsOf 133 = 20 := by kernel_rfl
/-- What the row's list gives. -/
theorem std_of {W : World} (h : laidMetH Tryz.prog Rows.substRenamesRow.laid W) : Std W := by
  have hP := laidMetH.filter (fun x => x.1 == "internal/strconv.uint64pow10") h
  exact Lib.tabIs_of_head (rest := []) gPow gPowType Tryz.underlying133 Tryz.underlying55 Tryz.cells55 Tryz.cells133 hP
theorem std_pos {W : World} (h : laidMetH Tryz.prog Rows.substRenamesRow.laid W) : 0 < W.heap.size := by
  have h2 := World.var?_cell gPow (std_of h) 0
  have h3 : W.cell? ⟨0, 0, none⟩ = some (.int .u64 1) := h2
  exact World.block_lt_of_cell? W _ h3
end Go.Proofs.YtgcnjpiiofjljaaGreatDoor
