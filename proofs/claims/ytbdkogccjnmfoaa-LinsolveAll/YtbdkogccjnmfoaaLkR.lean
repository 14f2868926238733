/- Rows that came in, with their room: how they are opened. -/
import Derived.Test.YtbdkogccjnmfoaaLkQ
namespace Go.Proofs.Ytbdkogccjnmfoaa
open Go.ChangeShapes Go.WideShapes Go.ChangeAt Go.RowKit

theorem weights_all {H : Type} {e : TypeId} : ∀ {el : List (DataW H)} {x : DataW H}, x ∈ el → ∀ k ∈ x.weights Try.prog e, k ∈ DataW.weightsAll Try.prog e el := by
  intro el
  induction el with
  | nil => intro x hx; cases hx
  | cons d r ih =>
    intro x hx k hk
    simp only [DataW.weightsAll, List.mem_append]
    rcases List.mem_cons.1 hx with rfl | hx
    · exact .inl hk
    · exact .inr (ih hx k hk)
theorem row_open2 {H : Type} {enc : TypeId × Value → H} {W : World} {n : Nat} {cs : List Value} {x : DataW H × List MemPlace} (h : DataW.trod enc Try.prog W 0 (fun _ => true) true n 27 cs = some x) : ∃ y : Option Addr × Nat × List Int, cs = [.slice y.1 y.2.2.length y.2.1] ∧ ((y.1 = none → y.2.1 = 0) ∧ IntsAt W y.1 y.2.2 ∧ (∀ z ∈ y.2.2, Is64 z) ∧ y.2.2.length ≤ y.2.1 ∧ y.2.1 ≤ maxLen ∧ (y.2.2.length = 0 ∨ ∃ el sp, x.1 = .slice el sp ∧ y.2.2.length ≤ el.length + sp.length)) := by
  have hc : ∃ a len cap, cs = [.slice a len cap] ∧ len ≤ cap ∧ cap ≤ maxLen := by
    rcases DataW.trod_slice Try.underlying27 h with ⟨hcs, _⟩ | ⟨x, l, c, elems, rest, n, _, hcs, _, _, hl, hm, _⟩
    · exact ⟨_, _, _, hcs, Nat.le_refl _, Nat.zero_le _⟩
    · exact ⟨_, _, _, hcs, hl, hm⟩
  obtain ⟨a, len, cap, rfl, hl, hm⟩ := hc
  obtain ⟨h1, h2, ns, rfl, h4, h5⟩ := ints_open (a := a) (len := len) (cap := cap) (d := x.1) (p := x.2) ⟨n, h⟩
  exact ⟨(a, cap, ns), rfl, h1, h4, h5, hl, hm, h2⟩
/-- A slice's cells, and what stands for each. -/
theorem cells_open2 {H : Type} {enc : TypeId × Value → H} {W : World} {t e : TypeId} (ht : Try.prog.underlying t = some (.slice e)) (he : Try.prog.cellsOf e = 1) {α : Type} {val : α → Value} {good : α → DataW H → Prop} (hv : ∀ {n : Nat} {cs : List Value} {x : DataW H × List MemPlace}, DataW.trod enc Try.prog W 0 (fun _ => true) true n e cs = some x → ∃ y, cs = [val y] ∧ good y x.1)
    {a : Option Addr} {len cap : Nat} {d : DataW H} {p : List MemPlace} (h : DataW.Trod enc Try.prog W 0 (fun _ => true) true t (.slice a len cap) d p) :
    len ≤ maxLen ∧ (len = 0 ∨ ∃ el sp, d = .slice el sp ∧ len ≤ el.length + sp.length) ∧ ∃ l : List α, l.length = len ∧ ∀ i (hi : i < l.length), (∃ b o, a = some ⟨b, o, none⟩ ∧ W.cell? ⟨b, o + i, none⟩ = some (val l[i])) ∧ ∃ x el sp, d = .slice el sp ∧ x ∈ el ∧ good l[i] x := by
  obtain ⟨fuel, hf⟩ := h
  rcases DataW.trod_slice ht hf with ⟨hcs, _⟩ | ⟨x, l, c, elems, rest, n, _, hcs, hx, hb, hl, hm, hlen, hel, _, _⟩
  · simp [Value.cells] at hcs
    obtain ⟨rfl, rfl, rfl⟩ := hcs
    exact ⟨Nat.zero_le _, .inl rfl, [], rfl, fun i hi => absurd hi (by simp)⟩
  · simp [Value.cells] at hcs
    obtain ⟨rfl, rfl, rfl⟩ := hcs
    rw [he] at hel
    have hx1 := congrArg Prod.fst hx
    simp only at hx1
    refine ⟨by omega, .inr ⟨_, _, hx1, by simp; omega⟩, ?_⟩
    have each : ∀ i, i < len → ∃ y : α, ∃ cs z, W.cells? 0 (x.add (i * 1)) 1 = some cs ∧ cs = [val y] ∧ z ∈ elems.map (·.1) ∧ good y z := by
      intro i hi
      have h1 := hel i hi
      rw [List.getElem?_eq_getElem (by omega)] at h1
      cases hc : W.cells? 0 (x.add (i * 1)) 1 with
      | none => rw [hc] at h1; cases h1
      | some cs =>
        rw [hc] at h1
        obtain ⟨y, hy, hg⟩ := hv h1
        exact ⟨y, cs, _, rfl, hy, List.mem_map.2 ⟨_, List.getElem_mem _, rfl⟩, hg⟩
    obtain ⟨ll, hll, hp⟩ := list_of_each len each
    refine ⟨ll, hll, fun i hi => ?_⟩
    obtain ⟨cs, z, h1, h2, hz, hg⟩ := hp i hi
    refine ⟨?_, z, _, _, hx1, hz, hg⟩
    obtain ⟨b, off, spot⟩ := x
    have hspot : spot = none := by
      obtain ⟨cs0, z0, h10, h20, _⟩ := hp 0 (by omega)
      obtain ⟨_, _, h30⟩ := World.cells?_some h10
      have := h30 0 (by omega)
      rw [h20] at this
      simpa [Addr.add] using World.cell?_spot this
    subst hspot
    refine ⟨b, off, rfl, ?_⟩
    rw [addr_add, Nat.mul_one] at h1
    obtain ⟨_, _, h3⟩ := World.cells?_some h1
    subst h2
    have k0 := h3 0 (by omega)
    rw [addr_add] at k0
    exact k0
theorem rowsIn_open {H : Type} {enc : TypeId × Value → H} {W : World} {a : Option Addr} {len cap : Nat} {d : DataW H} {p : List MemPlace} {ts : List TypeId} {ds : List (DataW H)} {j : Nat} (hs : (DataW.weightsEach Try.prog ts ds).all (· ≤ reachBytes) = true) (htj : ts[j]? = some 23) (hdj : ds[j]? = some d) (h : DataW.Trod enc Try.prog W 0 (fun _ => true) true 23 (.slice a len cap) d p) :
    (len = 0 ∨ ∃ el sp, d = .slice el sp ∧ len ≤ el.length + sp.length) ∧ ∃ rs : List (List Int), rs.length = len ∧ RowsIn W a rs ∧ (∀ r ∈ rs, ∀ x ∈ r, Is64 x) := by
  obtain ⟨h2, h3, l, hl, hp⟩ := cells_open2 (val := fun y : Option Addr × Nat × List Int => Value.slice y.1 y.2.2.length y.2.1) (good := fun y x => (y.1 = none → y.2.1 = 0) ∧ IntsAt W y.1 y.2.2 ∧ (∀ z ∈ y.2.2, Is64 z) ∧ y.2.2.length ≤ y.2.1 ∧ y.2.1 ≤ maxLen ∧ (y.2.2.length = 0 ∨ ∃ el sp, x = DataW.slice el sp ∧ y.2.2.length ≤ el.length + sp.length)) Try.underlying23 Try.cells27 (fun h => row_open2 h) h
  refine ⟨h3, l.map rowOf, by simpa using hl, ⟨by simp; omega, fun i hi => ?_⟩, fun r hr => ?_⟩
  · obtain ⟨⟨b, o, e1, e2⟩, z, el, sp, hd, hz, ⟨g1, g2, _, g4, g5, g6⟩⟩ := hp i (by simpa using hi)
    refine ⟨b, o, (l[i]'(by simpa using hi)).1, (l[i]'(by simpa using hi)).2.1, e1, ?_, ?_, g1, ?_, g5, ?_⟩
    · simp only [List.getElem_map]; exact e2
    · simp only [List.getElem_map]; exact g2
    · simp only [List.getElem_map]; exact g4
    · simp only [List.getElem_map]
      show (l[i]'(by simpa using hi)).2.2.length ≤ _
      rcases g6 with g6 | ⟨el', sp', rfl, g7⟩
      · omega
      · subst hd
        have hw : (el'.length + sp'.length) * Try.prog.bytesOf 3 ∈ (DataW.slice el sp).weights Try.prog 23 := by
          simp only [DataW.weights, Try.underlying23, List.mem_cons, List.mem_append]
          refine .inr (.inl (weights_all hz _ ?_))
          simp only [DataW.weights, Try.underlying27, List.mem_cons]
          exact .inl trivial
        have := List.all_eq_true.1 hs _ (DataW.weights_mem_each htj hdj _ hw)
        rw [Try.bytes3] at this
        have e : reachBytes = 140737488351232 := rfl
        rw [e] at this
        have h8 := of_decide_eq_true this
        omega
  · obtain ⟨y, hy, rfl⟩ := List.mem_map.1 hr
    obtain ⟨i, hi, rfl⟩ := List.getElem_of_mem hy
    obtain ⟨_, z, _, _, _, _, ⟨_, _, g4, _⟩⟩ := hp i hi
    exact g4
end Go.Proofs.Ytbdkogccjnmfoaa
