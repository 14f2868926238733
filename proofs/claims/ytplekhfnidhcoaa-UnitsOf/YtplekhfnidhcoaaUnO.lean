/- How numbers and texts that came in are opened. -/
import Derived.Test.YtplekhfnidhcoaaUnG
import Derived.Test.YtplekhfnidhcoaaUnC
import Derived.ProofKit
import Derived.OpenShut
import Derived.SizedLaws
namespace Go.Proofs.Ytplekhfnidhcoaa
open Go.ChangeShapes Go.WideShapes Go.ChangeAt Go.RowKit

theorem own : ownKnob Try.prog.godebug = none := by kernel_rfl
theorem laidOut : laidOutB Try.prog = true := by kernel_rfl
theorem Try.bytes3 : Try.prog.bytesOf 3 = 8 := by kernel_rfl
theorem Try.bytes9 : Try.prog.bytesOf 9 = 16 := by kernel_rfl
theorem Try.cells3 : Try.prog.cellsOf 3 = 1 := by kernel_rfl
theorem Try.cells9 : Try.prog.cellsOf 9 = 1 := by kernel_rfl
theorem list_of_each {α : Type} {p : Nat → α → Prop} : ∀ n : Nat, (∀ i, i < n → ∃ x, p i x) → ∃ l : List α, l.length = n ∧ ∀ i (h : i < l.length), p i l[i]
  | 0, _ => ⟨[], rfl, fun i h => absurd h (by simp)⟩
  | n + 1, h => by
    obtain ⟨l, hl, hp⟩ := list_of_each n (fun i hi => h i (by omega))
    obtain ⟨x, hx⟩ := h n (by omega)
    refine ⟨l ++ [x], by simp [hl], fun i hi => ?_⟩
    by_cases hin : i < l.length
    · rw [List.getElem_append_left hin]; exact hp i hin
    · have : i = n := by simp at hi; omega
      subst this
      rw [List.getElem_append_right (by omega)]
      simpa [hl] using hx
theorem addr_add {b off k : Nat} : (⟨b, off, none⟩ : Addr).add k = ⟨b, off + k, none⟩ := by rw [Addr.add_lit]
/-- Single cells of one kind: a slice's cells. -/
theorem cells_open {H : Type} {enc : TypeId × Value → H} {W : World} {t e : TypeId} (ht : Try.prog.underlying t = some (.slice e)) (he : Try.prog.cellsOf e = 1) {α : Type} {val : α → Value} {good : α → DataW H → Prop} (hv : ∀ {n : Nat} {cs : List Value} {x : DataW H × List MemPlace}, DataW.trod enc Try.prog W 0 (fun _ => true) true n e cs = some x → ∃ y, cs = [val y] ∧ good y x.1)
    {a : Option Addr} {len cap : Nat} {d : DataW H} {p : List MemPlace} (h : DataW.Trod enc Try.prog W 0 (fun _ => true) true t (.slice a len cap) d p) :
    (a = none → cap = 0) ∧ len ≤ maxLen ∧ (len = 0 ∨ ∃ el sp, d = .slice el sp ∧ len ≤ el.length + sp.length) ∧ ∃ l : List α, l.length = len ∧ ∀ i (hi : i < l.length), (∃ b o, a = some ⟨b, o, none⟩ ∧ W.cell? ⟨b, o + i, none⟩ = some (val l[i])) ∧ ∃ x, good l[i] x := by
  obtain ⟨fuel, hf⟩ := h
  rcases DataW.trod_slice ht hf with ⟨hcs, _⟩ | ⟨x, l, c, elems, rest, n, _, hcs, hx, hb, hl, hm, hlen, hel, _, _⟩
  · simp [Value.cells] at hcs
    obtain ⟨rfl, rfl, rfl⟩ := hcs
    exact ⟨fun _ => rfl, Nat.zero_le _, .inl rfl, [], rfl, fun i hi => absurd hi (by simp)⟩
  · simp [Value.cells] at hcs
    obtain ⟨rfl, rfl, rfl⟩ := hcs
    rw [he] at hel
    have hx1 := congrArg Prod.fst hx
    simp only at hx1
    refine ⟨fun h => (by cases h), by omega, .inr ⟨_, _, hx1, by simp; omega⟩, ?_⟩
    have each : ∀ i, i < len → ∃ y : α, ∃ cs z, W.cells? 0 (x.add (i * 1)) 1 = some cs ∧ cs = [val y] ∧ good y z := by
      intro i hi
      have h1 := hel i hi
      rw [List.getElem?_eq_getElem (by omega)] at h1
      cases hc : W.cells? 0 (x.add (i * 1)) 1 with
      | none => rw [hc] at h1; cases h1
      | some cs =>
        rw [hc] at h1
        obtain ⟨y, hy, hg⟩ := hv h1
        exact ⟨y, cs, _, rfl, hy, hg⟩
    obtain ⟨ll, hll, hp⟩ := list_of_each len each
    refine ⟨ll, hll, fun i hi => ?_⟩
    obtain ⟨cs, z, h1, h2, hg⟩ := hp i hi
    refine ⟨?_, z, hg⟩
    obtain ⟨b, off, spot⟩ := x
    have hspot : spot = none := by
      obtain ⟨cs0, z0, h10, h20, _⟩ := hp 0 (by omega)
      obtain ⟨_, _, h30⟩ := World.cells?_some h10
      have := h30 0 (by omega)
      rw [h20] at this
      simpa [Addr.add] using World.cell?_spot this
    subst hspot
    refine ⟨b, off, rfl, ?_⟩
    rw [addr_add, Nat.mul_one] at h1
    obtain ⟨_, _, h3⟩ := World.cells?_some h1
    subst h2
    have k0 := h3 0 (by omega)
    rw [addr_add] at k0
    exact k0
theorem int_open {H : Type} {enc : TypeId × Value → H} {W : World} {n : Nat} {cs : List Value} {x : DataW H × List MemPlace} (h : DataW.trod enc Try.prog W 0 (fun _ => true) true n 3 cs = some x) : ∃ y : Int, cs = [.int .i64 y] ∧ (-9223372036854775808 ≤ y ∧ y ≤ 9223372036854775807) := by
  obtain ⟨y, e1, _, hw⟩ := DataW.trod_int Try.underlying3 h
  refine ⟨y, e1, ?_⟩
  simp only [Lit.wf, Bool.and_eq_true, decide_eq_true_eq] at hw
  exact hw
theorem str_open {H : Type} {enc : TypeId × Value → H} {W : World} {n : Nat} {cs : List Value} {x : DataW H × List MemPlace} (h : DataW.trod enc Try.prog W 0 (fun _ => true) true n 9 cs = some x) : ∃ y : ByteArray, cs = [.string y] ∧ True := by
  obtain ⟨y, e1, _, _⟩ := DataW.trod_string Try.underlying9 h
  exact ⟨y, e1, trivial⟩
theorem ints_open {H : Type} {enc : TypeId × Value → H} {W : World} {a : Option Addr} {len cap : Nat} {d : DataW H} {p : List MemPlace} (h : DataW.Trod enc Try.prog W 0 (fun _ => true) true 29 (.slice a len cap) d p) :
    (len = 0 ∨ ∃ el sp, d = .slice el sp ∧ len ≤ el.length + sp.length) ∧ ∃ ns : List Int, ns.length = len ∧ IntsAt W a ns ∧ ∀ x ∈ ns, Is64 x := by
  obtain ⟨h1, h2, h3, l, hl, hp⟩ := cells_open (val := fun y : Int => Value.int .i64 y) (good := fun y _ => Is64 y) Try.underlying29 Try.cells3 (fun h => int_open h) h
  refine ⟨h3, l, hl, ⟨by omega, fun i hi => (hp i hi).1⟩, fun x hx => ?_⟩
  obtain ⟨i, hi, rfl⟩ := List.getElem_of_mem hx
  obtain ⟨_, z, hz⟩ := hp i hi
  exact hz
theorem strs_open {H : Type} {enc : TypeId × Value → H} {W : World} {a : Option Addr} {len cap : Nat} {d : DataW H} {p : List MemPlace} (h : DataW.Trod enc Try.prog W 0 (fun _ => true) true 33 (.slice a len cap) d p) :
    (len = 0 ∨ ∃ el sp, d = .slice el sp ∧ len ≤ el.length + sp.length) ∧ ∃ ns : List ByteArray, ns.length = len ∧ StrsAt W a ns := by
  obtain ⟨h1, h2, h3, l, hl, hp⟩ := cells_open (val := fun y : ByteArray => Value.string y) (good := fun _ _ => True) Try.underlying33 Try.cells9 (fun h => str_open h) h
  exact ⟨h3, l, hl, ⟨by omega, fun i hi => (hp i hi).1⟩⟩
theorem ints_sized {H : Type} {ts : List TypeId} {ds : List (DataW H)} {j len : Nat} {d : DataW H} (h : (DataW.weightsEach Try.prog ts ds).all (· ≤ reachBytes) = true) (ht : ts[j]? = some 29) (hd : ds[j]? = some d)
    (ho : len = 0 ∨ ∃ el sp, d = .slice el sp ∧ len ≤ el.length + sp.length) : len ≤ 17592186044416 := by
  rcases ho with rfl | ⟨el, sp, rfl, hle⟩
  · omega
  · have := sized_slice h ht hd Try.underlying29
    rw [Try.bytes3] at this
    have e : reachBytes = 140737488351232 := rfl
    rw [e] at this
    omega
theorem strs_sized {H : Type} {ts : List TypeId} {ds : List (DataW H)} {j len : Nat} {d : DataW H} (h : (DataW.weightsEach Try.prog ts ds).all (· ≤ reachBytes) = true) (ht : ts[j]? = some 33) (hd : ds[j]? = some d)
    (ho : len = 0 ∨ ∃ el sp, d = .slice el sp ∧ len ≤ el.length + sp.length) : len ≤ 17592186044416 := by
  rcases ho with rfl | ⟨el, sp, rfl, hle⟩
  · omega
  · have := sized_slice h ht hd Try.underlying33
    rw [Try.bytes9] at this
    have e : reachBytes = 140737488351232 := rfl
    rw [e] at this
    omega
theorem num_open {H : Type} {enc : TypeId × Value → H} {W : World} {y : Int} {d : DataW H} {p : List MemPlace} (h : DataW.Trod enc Try.prog W 0 (fun _ => true) true 3 (.int .i64 y) d p) : Is64 y := by
  obtain ⟨fuel, hf⟩ := h
  obtain ⟨z, e1, hz⟩ := int_open hf
  simp [Value.cells] at e1
  subst e1
  exact hz
end Go.Proofs.Ytplekhfnidhcoaa
