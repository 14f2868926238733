/- How a script that came in is opened. -/
import Derived.Test.YtchjdpmgocapjaaAgOp
import Derived.Test.YtchjdpmgocapjaaAgPl
import Derived.Lib.SmallJoins
namespace Go.Proofs.Ytchjdpmgocapjaa
open Go.ChangeShapes Go.WideShapes Go.ChangeAt Go.RowKit

theorem list_of_each {α : Type} {p : Nat → α → Prop} : ∀ n : Nat, (∀ i, i < n → ∃ x, p i x) → ∃ l : List α, l.length = n ∧ ∀ i (h : i < l.length), p i l[i]
  | 0, _ => ⟨[], rfl, fun i h => absurd h (by simp)⟩
  | n + 1, h => by
    obtain ⟨l, hl, hp⟩ := list_of_each n (fun i hi => h i (by omega))
    obtain ⟨x, hx⟩ := h n (by omega)
    refine ⟨l ++ [x], by simp [hl], fun i hi => ?_⟩
    by_cases hin : i < l.length
    · rw [List.getElem_append_left hin]; exact hp i hin
    · have : i = n := by simp at hi; omega
      subst this
      rw [List.getElem_append_right (by omega)]
      simpa [hl] using hx
theorem addr_add {b off k : Nat} : (⟨b, off, none⟩ : Addr).add k = ⟨b, off + k, none⟩ := by rw [Addr.add_lit]
theorem Try.cells46 : Try.prog.cellsOf 46 = 4 := by kernel_rfl
theorem Try.cells3 : Try.prog.cellsOf 3 = 1 := by kernel_rfl
theorem Try.cells4 : Try.prog.cellsOf 4 = 1 := by kernel_rfl
theorem Try.bytes46 : Try.prog.bytesOf 46 = 32 := by kernel_rfl
theorem op_open {H : Type} {enc : TypeId × Value → H} {W : World} {fuel : Nat} {cs : List Value} {x : DataW H × List MemPlace}
    (h : DataW.trod enc Try.prog W 0 (fun _ => true) true fuel 46 cs = some x) : ∃ y : Op4, cs = [.bool y.wh, .int .i64 y.k, .int .i64 y.x, .int .i64 y.wt] ∧ Is64 y.x := by
  obtain ⟨y0, y1, y2, y3, n, _, hl, h0, h1, h2, h3⟩ := Go.Joins.trod_struct4 Try.underlying46 h
  rw [Try.cells46] at hl
  simp only [Try.cells3, Try.cells4] at h0 h1 h2 h3
  match cs, hl with
  | [c0, c1, c2, c3], _ =>
    obtain ⟨n0, e0, _⟩ := DataW.trod_bool Try.underlying4 h0
    obtain ⟨n1, e1, _⟩ := int_open h1
    obtain ⟨n2, e2, hx⟩ := int_open h2
    obtain ⟨n3, e3, _⟩ := int_open h3
    simp at e0 e1 e2 e3
    subst e0 e1 e2 e3
    exact ⟨⟨n0, n1, n2, n3⟩, rfl, hx⟩
theorem ops_open {H : Type} {enc : TypeId × Value → H} {W : World} {a : Option Addr} {len cap : Nat} {d : DataW H} {p : List MemPlace}
    (h : DataW.Trod enc Try.prog W 0 (fun _ => true) true 37 (.slice a len cap) d p) : ∃ l : List Op4, l.length = len ∧ OpsAt W a l ∧ (len = 0 ∨ ∃ el sp, d = .slice el sp ∧ len ≤ el.length + sp.length) := by
  obtain ⟨fuel, hf⟩ := h
  rcases DataW.trod_slice Try.underlying37 hf with ⟨hcs, _⟩ | ⟨x, l, c, elems, rest, n, _, hcs, hx, hb, hl, hm, hlen, hel, _, _⟩
  · simp [Value.cells] at hcs
    obtain ⟨rfl, rfl, rfl⟩ := hcs
    exact ⟨[], rfl, ⟨by simp, fun i hi => absurd hi (by simp)⟩, .inl rfl⟩
  · simp [Value.cells] at hcs
    obtain ⟨rfl, rfl, rfl⟩ := hcs
    rw [Try.cells46] at hel
    have each : ∀ i, i < len → ∃ y : Op4, ∃ cs, W.cells? 0 (x.add (i * 4)) 4 = some cs ∧ cs = [.bool y.wh, .int .i64 y.k, .int .i64 y.x, .int .i64 y.wt] ∧ Is64 y.x := by
      intro i hi
      have h1 := hel i hi
      rw [List.getElem?_eq_getElem (by omega)] at h1
      cases hc : W.cells? 0 (x.add (i * 4)) 4 with
      | none => rw [hc] at h1; cases h1
      | some cs =>
        rw [hc] at h1
        obtain ⟨y, hy⟩ := op_open h1
        exact ⟨y, cs, rfl, hy⟩
    obtain ⟨ll, hll, hp⟩ := list_of_each len each
    refine ⟨ll, hll, ⟨by omega, fun i hi => ?_⟩, .inr ⟨_, _, congrArg Prod.fst hx, by simp; omega⟩⟩
    obtain ⟨cs, h1, h2, h2x⟩ := hp i hi
    obtain ⟨b, off, spot⟩ := x
    have hspot : spot = none := by
      obtain ⟨cs0, h10, h20, _⟩ := hp 0 (by omega)
      obtain ⟨_, _, h30⟩ := World.cells?_some h10
      have := h30 0 (by omega)
      rw [h20] at this
      simpa [Addr.add] using World.cell?_spot this
    subst hspot
    refine ⟨b, off, rfl, ?_⟩
    rw [addr_add] at h1
    obtain ⟨_, _, h3⟩ := World.cells?_some h1
    subst h2
    have k0 := h3 0 (by omega)
    have k1 := h3 1 (by omega)
    have k2 := h3 2 (by omega)
    have k3 := h3 3 (by omega)
    rw [addr_add] at k0 k1 k2 k3
    exact ⟨k0, k1, k2, k3, h2x⟩
theorem ops_sized {H : Type} {ts : List TypeId} {ds : List (DataW H)} {j len : Nat} {d : DataW H} (h : (DataW.weightsEach Try.prog ts ds).all (· ≤ reachBytes) = true) (ht : ts[j]? = some 37) (hd : ds[j]? = some d)
    (ho : len = 0 ∨ ∃ el sp, d = .slice el sp ∧ len ≤ el.length + sp.length) : len ≤ 140737488355328 := by
  rcases ho with rfl | ⟨el, sp, rfl, hle⟩
  · omega
  · have := sized_slice h ht hd Try.underlying37
    rw [Try.bytes46] at this
    have e : reachBytes = 140737488351232 := rfl
    rw [e] at this
    omega
end Go.Proofs.Ytchjdpmgocapjaa
