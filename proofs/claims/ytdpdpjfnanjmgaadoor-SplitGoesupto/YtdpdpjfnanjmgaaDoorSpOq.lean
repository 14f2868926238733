/- A deal that came in, with the room of its lists. -/
import Derived.Test.YtdpdpjfnanjmgaaDoorSpOp
namespace Go.Proofs.YtdpdpjfnanjmgaaDoor
open Go.ChangeShapes Go.WideShapes Go.ChangeAt Go.RowKit Go.Deep

theorem slice_cap {H : Type} {enc : TypeId × Value → H} {W : World} {n : Nat} {a : Option Addr} {len cap : Nat} {x : DataW H × List MemPlace} (h : DataW.trod enc Tryd.prog W 0 (fun _ => true) true n 23 [.slice a len cap] = some x) : len ≤ cap := by
  rcases DataW.trod_slice Tryd.underlying23 h with ⟨hcs, _⟩ | ⟨x, l, c, elems, rest, n, _, hcs, hx, hb, hl, _⟩
  · simp at hcs
    obtain ⟨rfl, rfl, rfl⟩ := hcs
    exact Nat.zero_le _
  · simp at hcs
    obtain ⟨rfl, rfl, rfl⟩ := hcs
    exact hl
theorem deal_open2 {H : Type} {enc : TypeId × Value → H} {W : World} {base : Nat} {v : Value} {d : DataW H} {p : List MemPlace} (hv : Value.okWide Tryd.prog W .any base 29 v) (h : DataW.Trod enc Tryd.prog W 0 (fun _ => true) true 29 v d p) :
    ∃ a m c b k e f, v = .agg #[.slice a (List.length m) c, .slice b (List.length k) e, .bool f] ∧ (a = none → c = 0) ∧ (b = none → e = 0) ∧ IntsAt W a m ∧ IntsAt W b k ∧ m.length ≤ c ∧ k.length ≤ e := by
  obtain ⟨cs, rfl, hs⟩ := okWide_struct Tryd.underlying29 hv
  obtain ⟨fuel, hf⟩ := h
  obtain ⟨y0, y1, y2, n, -, hl, g0, g1, g2⟩ := trod_struct3 Tryd.underlying29 hf
  rw [Tryd.cells29] at hl
  obtain ⟨l⟩ := cs
  match l, hl with
  | [v0, v1, v2], _ =>
    simp [Value.cells, Tryd.cells23, Tryd.cells4] at g0 g1 g2
    obtain ⟨a, m, c, e0, h1, h2, h3⟩ := row_open g0
    obtain ⟨b, k, e, e1, h4, h5, h6⟩ := row_open g1
    obtain ⟨f, e2, -⟩ := DataW.trod_bool Tryd.underlying4 g2
    simp at e0 e1 e2
    subst e0 e1 e2
    exact ⟨a, m, c, b, k, e, f, rfl, h1, h4, h2, h5, slice_cap g0, slice_cap g1⟩
end Go.Proofs.YtdpdpjfnanjmgaaDoor
