/- A deal that came in, with the room of its lists and a bound for them. -/
import Derived.Test.YtdpdpjfnanjmgaaDoorSpOq
namespace Go.Proofs.YtdpdpjfnanjmgaaDoor
open Go.ChangeShapes Go.WideShapes Go.ChangeAt Go.RowKit Go.Deep

theorem slice_bulk {H : Type} {enc : TypeId × Value → H} {W : World} {n : Nat} {a : Option Addr} {len cap : Nat} {x : DataW H × List MemPlace} (h : DataW.trod enc Tryd.prog W 0 (fun _ => true) true n 23 [.slice a len cap] = some x) : len ≤ Rows.uptoBulk x.1 :=
  (ints_open (a := a) (len := len) (cap := cap) (d := x.1) (p := x.2) ⟨n, h⟩).2.1
theorem deal_open3 {H : Type} {enc : TypeId × Value → H} {W : World} {base : Nat} {v : Value} {d : DataW H} {p : List MemPlace} (hv : Value.okWide Tryd.prog W .any base 29 v) (h : DataW.Trod enc Tryd.prog W 0 (fun _ => true) true 29 v d p) :
    ∃ a m c b k e f, v = .agg #[.slice a (List.length m) c, .slice b (List.length k) e, .bool f] ∧ (a = none → c = 0) ∧ (b = none → e = 0) ∧ IntsAt W a m ∧ IntsAt W b k ∧ m.length ≤ Rows.uptoBulk d ∧ k.length ≤ Rows.uptoBulk d ∧ k.length ≤ e := by
  obtain ⟨cs, rfl, hs⟩ := okWide_struct Tryd.underlying29 hv
  obtain ⟨fuel, hf⟩ := h
  obtain ⟨y0, y1, y2, n, hd, hl, g0, g1, g2⟩ := trod_struct3 Tryd.underlying29 hf
  rw [Tryd.cells29] at hl
  obtain ⟨l⟩ := cs
  match l, hl with
  | [v0, v1, v2], _ =>
    simp [Value.cells, Tryd.cells23, Tryd.cells4] at g0 g1 g2
    obtain ⟨a, m, c, e0, h1, h2, h3⟩ := row_open g0
    obtain ⟨b, k, e, e1, h4, h5, h6⟩ := row_open g1
    obtain ⟨f, e2, -⟩ := DataW.trod_bool Tryd.underlying4 g2
    simp at e0 e1 e2
    subst e0 e1 e2
    have k0 := slice_bulk g0
    have k1 := slice_bulk g1
    have hb : Rows.uptoBulk y0.1 ≤ Rows.uptoBulk d ∧ Rows.uptoBulk y1.1 ≤ Rows.uptoBulk d := by
      have hd1 := congrArg Prod.fst hd
      simp only at hd1
      rw [hd1]
      simp only [Rows.uptoBulk, Rows.uptoBulkAll]
      omega
    exact ⟨a, m, c, b, k, e, f, rfl, h1, h4, h2, h5, by omega, by omega, slice_cap g1⟩
theorem small_two {H : Type} {d e : DataW H} (hk : Rows.uptoSmall H [d, e] = true) : Rows.uptoBulk d + Rows.uptoBulk e ≤ 1048576 := by
  have h : Rows.uptoBulkAll [d, e] ≤ 1048576 := of_decide_eq_true hk
  simp only [Rows.uptoBulkAll] at h
  omega
end Go.Proofs.YtdpdpjfnanjmgaaDoor
