/- An append of one entry. -/
import Derived.Maps.AppendAt
import Derived.Lib.AppendZeros
import Derived.Deep.AppendLies
import Derived.Laws.AppendOwnNone
import Derived.Lib.SmallJoins
import Derived.Test.YtchjdpmgocapjaaAgC
namespace Go.Proofs.Ytchjdpmgocapjaa
open Go.RowKit Go.Shelf

theorem info_parts {P : Program} {e : TypeId} {z : Value} {s n : Nat} (h : (P.info? e).map (fun i => (i.zero, i.size, i.bytes)) = some (some z, s, n)) : ∃ i, P.info? e = some i ∧ i.zero = some z ∧ i.size = s ∧ i.bytes = n := by
  cases hi : P.info? e with
  | none => rw [hi] at h; cases h
  | some i =>
    rw [hi] at h
    simp at h
    exact ⟨i, rfl, h.1, h.2.1, h.2.2⟩
theorem info86 : (Try.prog.info? 86).map (fun i => (i.zero, i.size, i.bytes)) = some (some (.pointer none), 1, 8) := by kernel_rfl
theorem run_appP (ty : TypeId) (v : Value) (n : Nat) (xs : List Value) (w : World) (hown : w.ownsRow 0 86 1 v n xs) (b : Nat) (u : Value) (hb : w.heap[b]? = some (.cells #[u] 86 (0, 0))) (hu : u.oneCell' = true) (hn : n + 1 ≤ 2097153) :
    ∃ p' c' w', (Builtin.append_ #[80, 80] ty #[v, .slice (some ⟨b, 0, none⟩) 1 1]).run Try.prog w = .ok (.slice p' (n + 1) c') w' ∧ w'.ownsRow 0 86 1 (.slice p' (n + 1) c') (n + 1) (xs ++ [u]) ∧ w.grownBy w' v.ownBlock := by
  obtain ⟨i0, hi0, hz0, hz1, hz2⟩ := info_parts info86
  obtain ⟨v', w', hr, h2, h3, _, h5⟩ := run_append_own_at (P := Try.prog) w 0 80 ty 86 i0 _ 1 8 Try.underlying80 hi0 hz0 hz1 hz2 rfl (by decide) v n xs hown ⟨b, 0, none⟩ 1 1 [u] rfl (fun j x hj => by
    match j, hj with
    | 0, hj => cases hj; exact cell_box hb rfl) (by simpa using hu) (by unfold maxLen; omega) (by omega) (Nat.zero_le _)
  rcases h2.2 with ⟨e1, e2⟩ | ⟨g, c, cur, e1, _⟩
  · exact absurd e2 (by omega)
  · subst e1
    exact ⟨_, _, w', hr, h2, h3⟩
/-- A row of entries is one that may be appended to. -/
theorem QAt.own {w : World} {g cap : Nat} {es : List En} (h : QAt w g cap es) : w.ownsRow 0 86 1 (.slice (some ⟨g, 0, none⟩) es.length cap) es.length (es.map fun e => .pointer (some ⟨e.b, 0, none⟩)) := by
  obtain ⟨cs, h1, h2, h3⟩ := h.row
  have hf := h.fits
  refine ⟨by simp, .inr ⟨g, cap, cs, rfl, Nat.zero_le _, h1, by omega, h.small, by omega, ?_⟩⟩
  rw [Nat.mul_one]
  refine List.ext_getElem? (fun i => ?_)
  rw [List.getElem?_take, List.getElem?_map]
  by_cases hi : i < es.length
  · rw [if_pos hi, Array.getElem?_toList, h3 i hi, List.getElem?_eq_getElem hi]
    rfl
  · rw [if_neg hi, List.getElem?_eq_none (by omega)]
    rfl
end Go.Proofs.Ytchjdpmgocapjaa
