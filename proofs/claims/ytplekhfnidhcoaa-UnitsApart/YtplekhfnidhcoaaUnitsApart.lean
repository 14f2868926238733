/- For every input UnitsApart returns true: no two ways have the same binds where places and names are unlike, and each way binds names to places; no condition. -/
import Derived.Test.YtplekhfnidhcoaaUnO
import Derived.Test.YtplekhfnidhcoaaUnQ
import Derived.Lib.SmallJoins
namespace Go.Proofs.Ytplekhfnidhcoaa
open Go.ChangeShapes Go.WideShapes Go.ChangeAt Go.RowKit

theorem Try.cells47 : Try.prog.cellsOf 47 = 4 := by kernel_rfl
theorem slice_cell {H : Type} {enc : TypeId × Value → H} {W : World} {t e : TypeId} (ht : Try.prog.underlying t = some (.slice e)) {n : Nat} {cs : List Value} {x : DataW H × List MemPlace} (h : DataW.trod enc Try.prog W 0 (fun _ => true) true n t cs = some x) : ∃ a len cap, cs = [.slice a len cap] := by
  rcases DataW.trod_slice ht h with ⟨hcs, _⟩ | ⟨x, l, c, elems, rest, n, _, hcs, _⟩
  · exact ⟨_, _, _, hcs⟩
  · exact ⟨_, _, _, hcs⟩
set_option maxRecDepth 100000 in
theorem ways_open {H : Type} {enc : TypeId × Value → H} {W : World} {r : Reach} {b0 : Nat} {v : Value} {d : DataW H} {p : List MemPlace} {ts : List TypeId} {ds : List (DataW H)} (hv : Value.okWide Try.prog W r b0 47 v)
    (h : DataW.Trod enc Try.prog W 0 (fun _ => true) true 47 v d p) (hs : (DataW.weightsEach Try.prog ts ds).all (· ≤ reachBytes) = true) (htj : ts[0]? = some 47) (hdj : ds[0]? = some d) :
    ∃ (pu : Option Addr) (cu : Nat) (us : List Int) (pv : Option Addr) (cv : Nat) (vs : List ByteArray) (a b : Int), v = .agg #[.slice pu us.length cu, .slice pv vs.length cv, .int .i64 a, .int .i64 b] ∧ IntsAt W pu us ∧ StrsAt W pv vs ∧ us.length ≤ 17592186044416 ∧ vs.length ≤ 17592186044416 ∧ Is64 a ∧ Is64 b := by
  obtain ⟨v0, v1, v2, v3, y0, y1, y2, y3, n, rfl, rfl, _, h0, h1, h2, h3⟩ := Joins.open_agg4 Try.underlying47 (by kernel_rfl) Try.cells47 hv h
  have hs2 : (DataW.weightsEach Try.prog [29, 33, 3, 3] [y0.1, y1.1, y2.1, y3.1]).all (· ≤ reachBytes) = true := List.all_eq_true.2 fun k hk => List.all_eq_true.1 hs _ (DataW.weights_mem_each htj hdj k (by
    simp only [DataW.weights, Try.underlying47]
    exact hk))
  obtain ⟨pu, lu, cu, e0⟩ := slice_cell Try.underlying29 h0
  obtain ⟨pv, lv, cv, e1⟩ := slice_cell Try.underlying33 h1
  obtain ⟨a, e2, ha⟩ := int_open h2
  obtain ⟨b, e3, hb⟩ := int_open h3
  simp only [List.cons.injEq, and_true] at e0 e1 e2 e3
  subst e0 e1 e2 e3
  obtain ⟨ho0, us, rfl, hU, _⟩ := ints_open (d := y0.1) (p := y0.2) ⟨n, h0⟩
  obtain ⟨ho1, vs, rfl, hV⟩ := strs_open (d := y1.1) (p := y1.2) ⟨n, h1⟩
  exact ⟨pu, cu, us, pv, cv, vs, a, b, rfl, hU, hV, ints_sized hs2 (j := 0) rfl rfl ho0, strs_sized hs2 (j := 1) rfl rfl ho1, ha, hb⟩
set_option maxRecDepth 100000 in
theorem unitsApart_lifted (os : Os) (started : os.Started) (H : Type) (enc : TypeId × Value → H) :
    ReturnsInHanded {} Try.checked os 6 .any (Rows.unitsApartSpec.pre6 enc Try.prog Try.f6 Rows.unitsApartRow.domain false) (Rows.unitsApartSpec.post enc Try.prog Try.f6 false true false false) := by
  refine returnsInHanded_of_change_sized (C := Try.checked) own started (by kernel_rfl) Try.func6
    (ChangeSpec.witness6 (enc := enc) (C := Try.checked) false ⟨#[], #[.agg #[.slice none 0 0, .slice none 0 0, .int .i64 0, .int .i64 0]], []⟩ 8 (by kernel_rfl) (by kernel_rfl) (by kernel_rfl) (by kernel_rfl)) ?_
  intro W base args ds gs before hval0 hW hcnd hsz0 _
  have hval : ∀ (j : Nat) t v, Try.f6.params[j]? = some t → args[j]? = some v → Value.okWide Try.prog W .any base t v := hval0
  have hsz : (DataW.weightsEach Try.prog (Try.f6.params.toList ++ Rows.unitsApartSpec.plain.varTypes Try.prog) (ds ++ gs)).all (· ≤ reachBytes) = true := hsz0
  have hW' := hW
  obtain ⟨p, q, hA0, hV, rfl, hfz, hnd⟩ := hW
  have hA : DataW.TrodAll enc Try.prog W 0 (fun _ => true) true Try.f6.params.toList args.toList ds p := hA0
  rw [Try.params6] at hA hval hsz
  obtain ⟨v0, vs0, d0, ds0, p0, q0, hargs0, rfl, rfl, h0, r0⟩ := trodAll_cons hA
  obtain ⟨rfl, rfl, rfl⟩ := trodAll_nil r0
  obtain rfl : args = #[v0] := by cases args; simp_all
  obtain ⟨rfl, rfl⟩ := trodVars_none hV
  have k0 := h0
  have lt0 : ∀ x ∈ p0, x.block < W.heap.size := by obtain ⟨m, hm⟩ := k0; exact DataW.trod_lt m _ _ _ hm
  obtain ⟨pu, cu, us, pv, cv, vs, a, b, rfl, hU, hVs, hu, hv, ha, hb⟩ := ways_open (hval 0 47 v0 rfl rfl) h0 hsz rfl rfl
  clear hA0 hval0 hsz0
  refine (apart_walk pu cu us pv cv vs a b W hU hVs hu hv ha hb).mono fun e W' ⟨he, bel⟩ => ?_
  subst he
  exact ⟨_, rfl, _, _, _, [], _, [], hW', trodAll_mk1 (shut_bool Try.underlying4 _), (trodAll_cons_mk (Below.trod laidOut (by kernel_rfl) (of_decide_eq_true (by kernel_rfl)) k0 bel lt0) trodAll_mk0), rfl, bel.frame _, fun h => by cases h⟩

theorem unitsApart_holds : Rows.UnitsApartSaid :=
  OpenClaim.holds_of_wide 6 Try.f6 rfl rfl rfl rfl rfl rfl rfl ⟨rfl, rfl, rfl, rfl, rfl⟩ rfl rfl rfl rfl rfl (by kernel_rfl) Try.func6 (by kernel_rfl)
    (of_decide_eq_true (by kernel_rfl)) (by unfold Func.isWrapper; first | (rw [if_pos (by decide +kernel)]; kernel_rfl) | (rw [if_neg (by decide +kernel)]; exact ⟨rfl, rfl⟩))
    (fun os started H enc _ => unitsApart_lifted os started H enc)
end Go.Proofs.Ytplekhfnidhcoaa
