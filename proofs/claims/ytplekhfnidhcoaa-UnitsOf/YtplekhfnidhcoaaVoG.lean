/- How a signature and an equation that came in are opened. -/
import Derived.Test.YtplekhfnidhcoaaTOpen
import Derived.Test.YtplekhfnidhcoaaSigMem
namespace Go.Proofs.Ytplekhfnidhcoaa
open Go.ChangeShapes Go.WideShapes Go.ChangeAt Go.RowKit Go.Deep

set_option maxRecDepth 100000 in
theorem Try.cells80 : Try.prog.cellsOf 80 = 4 := by kernel_rfl
set_option maxRecDepth 100000 in
theorem Try.cells78 : Try.prog.cellsOf 78 = 1 := by kernel_rfl
set_option maxRecDepth 100000 in
theorem Try.bytes80 : Try.prog.bytesOf 80 = 48 := by kernel_rfl

set_option maxRecDepth 100000 in
/-- One symbol's reading. -/
theorem sym_open {H : Type} {enc : TypeId × Value → H} {W : World} {base : Nat} {spare : Nat → Bool} {held : Bool} {fuel : Nat} {cs : List Value} {x : DataW H × List MemPlace}
    (h : DataW.trod enc Try.prog W base spare held fuel 80 cs = some x) : ∃ y : Sym, cs = [.string y.name, .int .i64 y.kind, .int .i64 y.arity, .string y.unit] ∧ y.Fits := by
  obtain ⟨y0, y1, y2, y3, n, _, hl, h0, h1, h2, h3⟩ := Joins.trod_struct4 Try.underlying80 h
  rw [Try.cells80] at hl
  simp only [Try.cells9, Try.cells78, Try.cells3] at h0 h1 h2 h3
  match cs, hl with
  | [c0, c1, c2, c3], _ =>
    obtain ⟨s0, e0, _, f0⟩ := DataW.trod_string Try.underlying9 h0
    obtain ⟨n1, e1, _, _⟩ := DataW.trod_int Try.underlying78 h1
    obtain ⟨n2, e2, _, _⟩ := DataW.trod_int Try.underlying3 h2
    obtain ⟨s3, e3, _, f3⟩ := DataW.trod_string Try.underlying9 h3
    simp at e0 e1 e2 e3
    subst e0 e1 e2 e3
    exact ⟨⟨s0, n1, n2, s3⟩, rfl, f0, f3⟩

set_option maxRecDepth 100000 in
theorem sig_open {H : Type} {enc : TypeId × Value → H} {W : World} {fuel : Nat} {v : Value} {y : DataW H × List MemPlace}
    (hf : DataW.trod enc Try.prog W 0 (fun _ => true) true fuel 23 [v] = some y) :
    ∃ a len cap l, v = .slice a len cap ∧ SigAt W a len l ∧ len ≤ cap := by
  rcases DataW.trod_slice Try.underlying23 hf with ⟨hcs, _⟩ | ⟨x, len, cap, elems, rest, n, _, hcs, hx, hb, hl, hm, hlen, hel, _, _⟩
  · simp at hcs
    subst hcs
    exact ⟨none, 0, 0, [], rfl, ⟨rfl, by simp, fun i hi => absurd hi (by simp), fun s hs => absurd hs (by simp)⟩, Nat.le_refl _⟩
  · simp at hcs
    subst hcs
    rw [Try.cells80] at hel
    have each : ∀ i, i < len → ∃ y : Sym, (∃ cs, W.cells? 0 (x.add (i * 4)) 4 = some cs ∧ cs = [.string y.name, .int .i64 y.kind, .int .i64 y.arity, .string y.unit]) ∧ y.Fits := by
      intro i hi
      have h1 := hel i hi
      rw [List.getElem?_eq_getElem (by omega)] at h1
      cases hc : W.cells? 0 (x.add (i * 4)) 4 with
      | none => rw [hc] at h1; cases h1
      | some cs =>
        rw [hc] at h1
        obtain ⟨y, hy, hyf⟩ := sym_open h1
        exact ⟨y, ⟨cs, rfl, hy⟩, hyf⟩
    obtain ⟨ll, hll, hp⟩ := list_of_each len each
    refine ⟨some x, len, cap, ll, rfl, ⟨hll.symm, by omega, fun i hi => ?_, fun y hy => ?_⟩, hl⟩
    · obtain ⟨⟨cs, h1, h2⟩, _⟩ := hp i hi
      obtain ⟨b, off, spot⟩ := x
      have hspot : spot = none := by
        obtain ⟨⟨cs0, h10, h20⟩, _⟩ := hp 0 (by omega)
        obtain ⟨_, _, h30⟩ := World.cells?_some h10
        have := h30 0 (by omega)
        rw [h20] at this
        simpa [Addr.add] using World.cell?_spot this
      subst hspot
      refine ⟨b, off, rfl, ?_⟩
      rw [addr_add] at h1
      obtain ⟨_, _, h3⟩ := World.cells?_some h1
      subst h2
      have k0 := h3 0 (by omega)
      have k1 := h3 1 (by omega)
      have k2 := h3 2 (by omega)
      have k3 := h3 3 (by omega)
      rw [addr_add] at k0 k1 k2 k3
      exact ⟨k0, k1, k2, k3⟩
    · obtain ⟨i, hi, rfl⟩ := List.getElem_of_mem hy
      exact (hp i hi).2


set_option maxRecDepth 100000 in
theorem sig_full {H : Type} {enc : TypeId × Value → H} {W : World} {v : Value} {dd : DataW H} {ps : List MemPlace} (hc : v.cells.toList = [v])
    (h : DataW.Trod enc Try.prog W 0 (fun _ => true) true 23 v dd ps) (hz : Rows.uptoBulk dd ≤ 1048576) :
    ∃ a len cap l, v = .slice a len cap ∧ SigAt W a len l ∧ len ≤ cap ∧ len ≤ 1048576 := by
  obtain ⟨fuel, hf⟩ := h
  rw [hc] at hf
  obtain ⟨a, len, cap, l, rfl, hS, hcap⟩ := sig_open hf
  refine ⟨a, len, cap, l, rfl, hS, hcap, ?_⟩
  rcases DataW.trod_slice Try.underlying23 hf with ⟨hcs, _⟩ | ⟨x, len2, cap2, elems, rest, n, _, hcs, hx, hb, hl, hm, hlen, hel, _, _⟩
  · simp at hcs
    omega
  · simp at hcs
    obtain ⟨rfl, rfl, rfl⟩ := hcs
    have := congrArg Prod.fst hx
    simp only at this
    rw [this] at hz
    simp only [Rows.uptoBulk] at hz
    have := bulk_len (elems.map (·.1))
    rw [List.length_map] at this
    omega

end Go.Proofs.Ytplekhfnidhcoaa
