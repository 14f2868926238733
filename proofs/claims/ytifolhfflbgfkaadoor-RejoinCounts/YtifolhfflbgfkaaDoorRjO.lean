/- How numbers and texts that came in are opened; what the listed variables give; a start at which they hold what their initialisers lay. -/
import Derived.Test.YtifolhfflbgfkaaDoorRjH
import Derived.Test.YtifolhfflbgfkaaDoorCards
import Derived.Test.YtifolhfflbgfkaaDoorTie
import Derived.ProofKit
import Derived.OpenShut
import Derived.SliceStrings
import Derived.Deep.DeepHandedRow
import Derived.Lib.LaidTab
import Derived.WideKeyPair
import Derived.LaidSub
import Derived.LaidLaws
import Derived.LaidMore
namespace Go.Proofs.YtifolhfflbgfkaaDoor
open Go.ChangeShapes Go.WideShapes Go.ChangeAt Go.RowKit Go.Deep

theorem own : ownKnob Tryd.prog.godebug = none := by kernel_rfl
theorem laidOut : laidOutB Tryd.prog = true := by kernel_rfl
theorem gPowType : (Tryd.prog.globals[0]?).map (·.type) = some 54 := by kernel_rfl
theorem gSyn : Tryd.prog.globalNamed (Rows.rejoinCountsRow.named.getD 3 "") = some 1 := by kernel_rfl
theorem gSynType : (Tryd.prog.globals[1]?).map (·.type) = some 33 := by kernel_rfl
theorem Tryd.cells54 : Tryd.prog.cellsOf 54 = 20 := by kernel_rfl
theorem Tryd.cells39 : Tryd.prog.cellsOf 39 = 1 := by kernel_rfl
theorem Tryd.cells3 : Tryd.prog.cellsOf 3 = 1 := by kernel_rfl
theorem Tryd.cells22 : Tryd.prog.cellsOf 22 = 1 := by kernel_rfl
theorem addr_add {b off k : Nat} : (⟨b, off, none⟩ : Addr).add k = ⟨b, off + k, none⟩ := by rw [Addr.add_lit]
theorem list_of_each {α : Type} {p : Nat → α → Prop} : ∀ n : Nat, (∀ i, i < n → ∃ x, p i x) → ∃ l : List α, l.length = n ∧ ∀ i (h : i < l.length), p i l[i]
  | 0, _ => ⟨[], rfl, fun i h => absurd h (by simp)⟩
  | n + 1, h => by
    obtain ⟨l, hl, hp⟩ := list_of_each n (fun i hi => h i (by omega))
    obtain ⟨x, hx⟩ := h n (by omega)
    refine ⟨l ++ [x], by simp [hl], fun i hi => ?_⟩
    by_cases hin : i < l.length
    · rw [List.getElem_append_left hin]; exact hp i hin
    · have : i = n := by simp at hi; omega
      subst this
      rw [List.getElem_append_right (by omega)]
      simpa [hl] using hx
theorem int_open {H : Type} {enc : TypeId × Value → H} {W : World} {n : Nat} {cs : List Value} {x : DataW H × List MemPlace} (h : DataW.trod enc Tryd.prog W 0 (fun _ => true) true n 3 cs = some x) : ∃ y : Int, cs = [.int .i64 y] ∧ (-9223372036854775808 ≤ y ∧ y ≤ 9223372036854775807) := by
  obtain ⟨y, e1, _, hw⟩ := DataW.trod_int Tryd.underlying3 h
  refine ⟨y, e1, ?_⟩
  simp only [Lit.wf, Bool.and_eq_true, decide_eq_true_eq] at hw
  exact hw
theorem ints_open {H : Type} {enc : TypeId × Value → H} {W : World} {a : Option Addr} {len cap : Nat} {d : DataW H} {p : List MemPlace} (h : DataW.Trod enc Tryd.prog W 0 (fun _ => true) true 22 (.slice a len cap) d p) :
    ∃ ns : List Int, ns.length = len ∧ IntsAt W a ns := by
  obtain ⟨fuel, hf⟩ := h
  rcases DataW.trod_slice Tryd.underlying22 hf with ⟨hcs, _⟩ | ⟨x, l, c, elems, rest, n, _, hcs, hx, hb, hl, hm, hlen, hel, _, _⟩
  · simp [Value.cells] at hcs
    obtain ⟨rfl, rfl, rfl⟩ := hcs
    exact ⟨[], rfl, ⟨by simp, fun i hi => absurd hi (by simp)⟩⟩
  · simp [Value.cells] at hcs
    obtain ⟨rfl, rfl, rfl⟩ := hcs
    rw [Tryd.cells3] at hel
    have each : ∀ i, i < len → ∃ y : Int, ∃ cs, W.cells? 0 (x.add (i * 1)) 1 = some cs ∧ cs = [.int .i64 y] ∧ (-9223372036854775808 ≤ y ∧ y ≤ 9223372036854775807) := by
      intro i hi
      have h1 := hel i hi
      rw [List.getElem?_eq_getElem (by omega)] at h1
      cases hc : W.cells? 0 (x.add (i * 1)) 1 with
      | none => rw [hc] at h1; cases h1
      | some cs =>
        rw [hc] at h1
        obtain ⟨y, hy, hg⟩ := int_open h1
        exact ⟨y, cs, rfl, hy, hg⟩
    obtain ⟨ll, hll, hp⟩ := list_of_each len each
    refine ⟨ll, hll, ⟨by omega, fun i hi => ?_⟩⟩
    obtain ⟨cs, h1, h2, hg⟩ := hp i hi
    obtain ⟨b, off, spot⟩ := x
    have hspot : spot = none := by
      obtain ⟨cs0, h10, h20, _⟩ := hp 0 (by omega)
      obtain ⟨_, _, h30⟩ := World.cells?_some h10
      have := h30 0 (by omega)
      rw [h20] at this
      simpa [Addr.add] using World.cell?_spot this
    subst hspot
    refine ⟨b, off, rfl, ?_, hg⟩
    rw [addr_add, Nat.mul_one] at h1
    obtain ⟨_, _, h3⟩ := World.cells?_some h1
    subst h2
    have k0 := h3 0 (by omega)
    rw [addr_add] at k0
    exact k0
theorem texts_open {H : Type} {enc : TypeId × Value → H} {W : World} {a : Option Addr} {len cap : Nat} {d : DataW H} {p : List MemPlace}
    (h : DataW.Trod enc Tryd.prog W 0 (fun _ => true) true 23 (.slice a len cap) d p) : ∃ ss : List ByteArray, ss.length = len ∧ TextsAt W a ss := by
  obtain ⟨fuel, hf⟩ := h
  rcases open_strings Tryd.underlying23 Tryd.underlying9 (by kernel_rfl) hf with ⟨hcs, _⟩ | ⟨x, l, c, ss, hcs, _, hl, hm, hz, _, hcell, hws⟩
  · simp [Value.cells] at hcs
    obtain ⟨rfl, rfl, rfl⟩ := hcs
    exact ⟨[], rfl, by simp, fun i hi => absurd hi (by simp)⟩
  · simp [Value.cells] at hcs
    obtain ⟨rfl, rfl, rfl⟩ := hcs
    simp at hz
    refine ⟨ss.take len, by simp; omega, by simp; omega, fun i hi => ?_⟩
    have hi' : i < ss.length := by simp at hi; omega
    have hc := hcell i hi'
    obtain ⟨b, off, spot⟩ := x
    have hspot : spot = none := by simpa [Addr.add] using World.cell?_spot (hcell 0 (by omega))
    subst hspot
    refine ⟨b, off, rfl, ?_, hws _ (List.mem_of_mem_take (List.getElem_mem hi))⟩
    rw [List.getElem_take]
    rw [addr_add] at hc
    simpa [List.getD_eq_getElem?_getD, hi'] using hc
/-- What the row's list gives. -/
theorem std_of {W : World} (h : laidMetH Tryd.prog Rows.rejoinCountsRow.laid W) : Std W := by
  have hP := laidMetH.filter (fun x => x.1 == Rows.rejoinCountsRow.named.headD "") h
  have hE := laidMetH.filter (fun x => x.1 == Rows.rejoinCountsRow.named.getD 3 "") h
  refine ⟨Lib.tabIs_of_head (rest := []) gPow gPowType Tryd.underlying54 Tryd.underlying39 Tryd.cells39 Tryd.cells54 hP, ?_⟩
  obtain ⟨ps, ⟨g, t, cs, fuel, p, q, hg, ht, hvar, hd, _, _⟩, _⟩ := hE
  obtain rfl := Option.some.inj (gSyn.symm.trans hg)
  obtain rfl := Option.some.inj (gSynType.symm.trans ht)
  obtain ⟨_, u, v, hcs, _, _⟩ := iface_of_trod Tryd.underlying33 hd
  refine ⟨u, v, ?_⟩
  have := World.var?_cell hg hvar 0
  rw [Array.eq_one_of_toList hcs] at this
  simpa using this
end Go.Proofs.YtifolhfflbgfkaaDoor
