/- For every term, every path and every term put there TermsPlaces returns true: At and Put of package terms answer what the document says, in new memory, and what was handed in stays; no condition. -/
import Derived.Test.YtmhdapgiealmfaaTOpen
import Derived.Test.YtmhdapgiealmfaaTermsChecks
import Derived.Test.YtmhdapgiealmfaaTPlaces
namespace Go.Proofs.Ytmhdapgiealmfaa
open Go.ChangeShapes Go.WideShapes Go.ChangeAt Go.RowKit Go.Deep

theorem Try.bytes3 : Try.prog.bytesOf 3 = 8 := by kernel_rfl
/-- A path that came in. -/
theorem ints_open {H : Type} {enc : TypeId × Value → H} {W : World} {a : Option Addr} {len cap : Nat} {d : DataW H} {p : List MemPlace}
    (h : DataW.Trod enc Try.prog W 0 (fun _ => true) true 40 (.slice a len cap) d p) (hz : ∀ m ∈ d.weights Try.prog 40, m ≤ 140737488351232) : ∃ ps, IntsAt W a len ps ∧ len ≤ cap ∧ cap ≤ maxLen ∧ (a = none → cap = 0) ∧ len * 8 ≤ 140737488351232 := by
  obtain ⟨fuel, hf⟩ := h
  rcases DataW.trod_slice Try.underlying40 hf with ⟨hcs, _⟩ | ⟨x, l, c, elems, rest, n, _, hcs, h2, hb, hl, hm, hlen, hel, _, _⟩
  · simp [Value.cells] at hcs
    obtain ⟨rfl, rfl, rfl⟩ := hcs
    exact ⟨[], ⟨rfl, fun i hi => absurd hi (by simp)⟩, by omega, by simp, fun _ => rfl, by omega⟩
  · simp [Value.cells] at hcs
    obtain ⟨rfl, rfl, rfl⟩ := hcs
    rw [Try.cells3] at hel
    have hfew : len * 8 ≤ 140737488351232 := by
      have := hz ((elems.length + rest.length) * 8) (by rw [show d = _ from congrArg Prod.fst h2]; simp [DataW.weights, Try.underlying40, Try.bytes3])
      rw [hlen] at this
      omega
    have each : ∀ i, i < len → ∃ y : Int, W.cells? 0 (x.add (i * 1)) 1 = some [.int .i64 y] := by
      intro i hi
      have h1 := hel i hi
      rw [List.getElem?_eq_getElem (by omega)] at h1
      cases hc : W.cells? 0 (x.add (i * 1)) 1 with
      | none => rw [hc] at h1; cases h1
      | some cs =>
        rw [hc] at h1
        obtain ⟨s, e, _, _⟩ := DataW.trod_int Try.underlying3 h1
        exact ⟨s, by rw [e]⟩
    obtain ⟨ll, hll, hp⟩ := list_of_each len each
    refine ⟨ll, ⟨hll.symm, fun i hi => ?_⟩, by omega, by omega, (fun e => by cases e), hfew⟩
    have h1 := hp i hi
    obtain ⟨b, off, spot⟩ := x
    have hspot : spot = none := by
      obtain ⟨_, _, h30⟩ := World.cells?_some (hp 0 (by omega))
      have := h30 0 (by omega)
      simpa [Addr.add] using World.cell?_spot this
    subst hspot
    refine ⟨b, off, rfl, ?_⟩
    rw [addr_add] at h1
    obtain ⟨_, _, h3⟩ := World.cells?_some h1
    have k0 := h3 0 (by omega)
    rw [addr_add] at k0
    simpa using k0
theorem ints_weights {H : Type} {ts : List TypeId} {ds : List (DataW H)} {j : Nat} {d : DataW H} (h : (DataW.weightsEach Try.prog ts ds).all (· ≤ reachBytes) = true) (ht : ts[j]? = some 40) (hd : ds[j]? = some d) : ∀ m ∈ d.weights Try.prog 40, m ≤ 140737488351232 := fun m hm => by
  have := List.all_eq_true.1 h _ (DataW.weights_mem_each ht hd m hm)
  have e : reachBytes = 140737488351232 := rfl
  rw [e] at this
  simpa using this

set_option maxRecDepth 100000 in
theorem termsPlaces_lifted (os : Os) (started : os.Started) (H : Type) (enc : TypeId × Value → H) :
    ReturnsInHanded {} Try.checked os 6 .any (Rows.termsPlacesSpec.pre6 enc Try.prog Try.f6 Rows.termsPlacesRow.domain false) (Rows.termsPlacesSpec.post enc Try.prog Try.f6 false true false false) := by
  refine returnsInHanded_of_change_sized (C := Try.checked) own started (by kernel_rfl) Try.func6
    (ChangeSpec.witness6 (enc := enc) (C := Try.checked) false ⟨#[], #[.agg #[.string .empty, .int .i64 0, .slice none 0 0], .slice none 0 0, .agg #[.string .empty, .int .i64 0, .slice none 0 0]], []⟩ 8 (by kernel_rfl) (by kernel_rfl) (by kernel_rfl) (by kernel_rfl)) ?_
  intro W base args ds gs before hval0 hW hcnd hsz0 _
  have hval : ∀ (j : Nat) t v, Try.f6.params[j]? = some t → args[j]? = some v → Value.okWide Try.prog W .any base t v := hval0
  have hsz : (DataW.weightsEach Try.prog (Try.f6.params.toList ++ Rows.termsPlacesSpec.plain.varTypes Try.prog) (ds ++ gs)).all (· ≤ reachBytes) = true := hsz0
  have hW' := hW
  obtain ⟨p, q, hA0, hV, rfl, hfz, hnd⟩ := hW
  have hA : DataW.TrodAll enc Try.prog W 0 (fun _ => true) true Try.f6.params.toList args.toList ds p := hA0
  rw [Try.params6] at hA hval hsz
  obtain ⟨v0, vs0, d0, ds0, p0, q0, hargs, rfl, rfl, h0, r0⟩ := trodAll_cons hA
  obtain ⟨v1, vs1, d1, ds1, p1, q1, rfl, rfl, rfl, h1, r1⟩ := trodAll_cons r0
  obtain ⟨v2, vs2, d2, ds2, p2, q2, rfl, rfl, rfl, h2, r2⟩ := trodAll_cons r1
  obtain ⟨rfl, rfl, rfl⟩ := trodAll_nil r2
  obtain rfl : args = #[v0, v1, v2] := by cases args; simp_all
  obtain ⟨rfl, rfl⟩ := trodVars_none hV
  have lt0 : ∀ x ∈ p0, x.block < W.heap.size := by obtain ⟨m, hm⟩ := h0; exact DataW.trod_lt m _ _ _ hm
  have lt1 : ∀ x ∈ p1, x.block < W.heap.size := by obtain ⟨m, hm⟩ := h1; exact DataW.trod_lt m _ _ _ hm
  have lt2 : ∀ x ∈ p2, x.block < W.heap.size := by obtain ⟨m, hm⟩ := h2; exact DataW.trod_lt m _ _ _ hm
  obtain ⟨x, a, ca, l, rfl, hx, _⟩ := termv_open (hval 0 26 v0 rfl rfl) h0 (sz_of_weights hsz (j := 0) rfl rfl)
  obtain ⟨y, b, cb, m, rfl, hy, _⟩ := termv_open (hval 2 26 v2 rfl rfl) h2 (sz_of_weights hsz (j := 2) rfl rfl)
  obtain ⟨pa, pn, pc, rfl⟩ := okWide_slice Try.underlying40 (hval 1 40 v1 rfl rfl)
  obtain ⟨ps, hP, hpc, hpm, hnil, hfew⟩ := ints_open h1 (ints_weights hsz (j := 1) rfl rfl)
  clear hA0 hval0 hsz0
  refine (termsPlaces_walk ps (x, l) (y, m) a b ca cb pa pn pc W hx hy hP hnil hpc hpm hfew).mono fun e W' ⟨he, bel⟩ => ?_
  subst he
  exact ⟨_, rfl, _, _, _, [], _, [], hW', trodAll_mk1 (shut_bool Try.underlying4 _), (trodAll_cons_mk (Below.trod laidOut (by kernel_rfl) (of_decide_eq_true (by kernel_rfl)) h0 bel lt0) (trodAll_cons_mk (Below.trod laidOut (by kernel_rfl) (of_decide_eq_true (by kernel_rfl)) h1 bel lt1) (trodAll_cons_mk (Below.trod laidOut (by kernel_rfl) (of_decide_eq_true (by kernel_rfl)) h2 bel lt2) trodAll_mk0))), rfl, bel.frame _, fun h => by cases h⟩

theorem termsPlaces_holds : Rows.TermsPlacesSaid :=
  OpenClaim.holds_of_wide 6 Try.f6 rfl rfl rfl rfl rfl rfl rfl ⟨rfl, rfl, rfl, rfl, rfl⟩ rfl rfl rfl rfl rfl (by kernel_rfl) Try.func6 (by kernel_rfl)
    (of_decide_eq_true (by kernel_rfl)) (by unfold Func.isWrapper; first | (rw [if_pos (by decide +kernel)]; kernel_rfl) | (rw [if_neg (by decide +kernel)]; exact ⟨rfl, rfl⟩))
    (fun os started H enc _ => termsPlaces_lifted os started H enc)
end Go.Proofs.Ytmhdapgiealmfaa
