/- Rows of counts in memory, and the part of a bag that they name. -/
import Derived.Test.YtlbmamkkbpjafabDDoc
namespace Go.Proofs.Ytlbmamkkbpjafab
open Go.RowKit Go.Deep

def cAll (cs : List Int) : List Value := cs.map (Value.int .i64)
/-- A row of counts that is its owner's. -/
abbrev CRow (W : World) (base : Nat) (q : Option Addr) (d : Nat) (cs : List Int) : Prop := W.ownsRow base 3 1 (.slice q cs.length d) cs.length (cAll cs)
theorem crow_cell {W : World} {base : Nat} {q : Option Addr} {d : Nat} {cs : List Int} (h : CRow W base q d cs) (i : Nat) (hi : i < cs.length) : ∃ g, q = some ⟨g, 0, none⟩ ∧ base ≤ g ∧ g < W.heap.size ∧ W.cell? ⟨g, i, none⟩ = some (.int .i64 cs[i]) := by
  rcases h.2 with ⟨h2, h3⟩ | ⟨g, cap, cur, h1, h2, h3, h4, h5, h6, h7⟩
  · omega
  · obtain ⟨e1, _, e3⟩ := Value.slice.inj h1
    subst e1
    refine ⟨g, rfl, h2, (Array.getElem?_eq_some_iff.1 h3).1, ?_⟩
    have := h.cells (g := g) rfl i (.int .i64 cs[i]) (by simp [cAll, hi])
    rwa [Addr.add_lit, Nat.zero_add] at this
theorem crow_below {W W' : World} {base : Nat} {q : Option Addr} {d : Nat} {cs : List Int} (h : CRow W base q d cs) (hb : Below W.heap.size W W') : CRow W' base q d cs := h.kept (row := none) ⟨hb.os, hb.tape, hb.output, hb.size, fun k hk _ => hb.block k hk⟩ (by cases (Value.slice q cs.length d).ownBlock with
  | none => exact .inl rfl
  | some g => exact .inr (by simp))
/-- How often a thing is there in the part of these counts. -/
def ptF (l : List It) (cs : List Int) (y : It) : Int := cs.getD (posK y.1.1 l) 0
def partP (l : List It) (cs : List Int) : List It := keepP (ptF l cs) l
theorem ptF_at {l : List It} {cs : List Int} (hs : Srt l) (hc : cs.length = l.length) (i : Nat) (hi : i < l.length) : ptF l cs l[i] = cs[i] := by
  unfold ptF
  rw [(cntK_nth hs i hi).1, List.getD_eq_getElem?_getD, List.getElem?_eq_getElem (by omega)]
  rfl
end Go.Proofs.Ytlbmamkkbpjafab
