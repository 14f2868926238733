/- A queue in memory; its methods Len and Less. -/
import Derived.Test.YtchjdpmgocapjaaAgB
namespace Go.Proofs.Ytchjdpmgocapjaa
open Go.RowKit Go.Shelf

/-- An entry: its block, its thing, weight and ticket. -/
structure En where
  b : Nat
  x : Int
  wt : Int
  tk : Int
/-- An entry in memory, and where it says that it lies. -/
def EnAt (w : World) (e : En) (at_ : Int) : Prop := w.heap[e.b]? = some (.cells #[.int .i64 e.x, .int .i64 e.wt, .int .i64 e.tk, .int .i64 at_] 88 (0, 0))
/-- A row of entries in memory: the slice's block and the places that the entries say. -/
structure QAt (w : World) (g cap : Nat) (es : List En) : Prop where
  row : ∃ cs : Array Value, w.heap[g]? = some (.cells cs 86 (0, 0)) ∧ cs.size = cap ∧ ∀ i (h : i < es.length), cs[i]? = some (.pointer (some ⟨es[i].b, 0, none⟩))
  fits : es.length ≤ cap
  small : cap ≤ maxLen
  ents : ∀ i (h : i < es.length), EnAt w es[i] i
  far : ∀ i (h : i < es.length), es[i].b ≠ g
  once : ∀ i j (hi : i < es.length) (hj : j < es.length), es[i].b = es[j].b → i = j
/-- Does an entry come ahead of another? -/
def lessE (e f : En) : Bool := decide (ordI e.wt e.tk f.wt f.tk < 0)
theorem QAt.cell {w : World} {g cap : Nat} {es : List En} (h : QAt w g cap es) (i : Nat) (hi : i < es.length) : w.cell? ⟨g, i, none⟩ = some (.pointer (some ⟨es[i].b, 0, none⟩)) := by
  obtain ⟨cs, h1, _, h3⟩ := h.row
  exact cell_box h1 (h3 i hi)
theorem len_any (p : Option Addr) (n c : Nat) (w : World) : Calls Try.prog 104 #[.slice p n c] w fun e w' => e = .returned (.int .i64 n) ∧ w' = w := by
  go_enter Try.func104, Try.ntmps104
  go_wp2
  go_ret
  exact ⟨rfl, rfl⟩
set_option maxRecDepth 100000 in
set_option maxHeartbeats 4000000 in
theorem less_any (g cap : Nat) (es : List En) (i j : Nat) (hi : i < es.length) (hj : j < es.length) (w : World) (hQ : QAt w g cap es) : Calls Try.prog 105 #[.slice (some ⟨g, 0, none⟩) es.length cap, .int .i64 i, .int .i64 j] w fun e w' => e = .returned (.bool (lessE es[i] es[j])) ∧ Below w.heap.size w w' := by
  have hmax : maxLen = 9223372036854775807 := rfl
  have hs1 := hQ.fits; have hs2 := hQ.small
  have hEi := hQ.ents i hi; have hEj := hQ.ents j hj
  have c1 := hQ.cell i hi; have c2 := hQ.cell j hj
  unfold lessE
  generalize es[i] = ei at *
  generalize es[j] = ej at *
  have HO := hid (order_any ei.b ej.b ei.wt ei.tk ej.wt ej.tk w.drew (cell_box hEi rfl) (cell_box hEi rfl) (cell_box hEj rfl) (cell_box hEj rfl))
  have d1 : w.drew.cell? ⟨g, i, none⟩ = some (.pointer (some ⟨ei.b, 0, none⟩)) := c1
  have d2 : w.drew.cell? ⟨g, j, none⟩ = some (.pointer (some ⟨ej.b, 0, none⟩)) := c2
  generalize ordI ei.wt ei.tk ej.wt ej.tk = R at HO ⊢
  clear hQ hEi hEj
  generalize ei.b = bi at *
  generalize ej.b = bj at *
  generalize es.length = n at *
  have hiz : (i : Int) < (n : Int) := by omega
  have hjz : (j : Int) < (n : Int) := by omega
  go_enter Try.func105, Try.ntmps105
  go_wp2_with fail
  go_region_with ((first
    | (go_at_call 42; refine Calls.mono HO.out ?_; rintro e w3 ⟨rfl, hb3⟩; have HB3 : Hid (Below w.heap.size w w3) := hid (((Below.refl _ w).drew).trans hb3); clear hb3)
    | fail))
  all_goals
    go_wp2_with fail
    go_ret
    exact ⟨rfl, HB3.out⟩
end Go.Proofs.Ytchjdpmgocapjaa
