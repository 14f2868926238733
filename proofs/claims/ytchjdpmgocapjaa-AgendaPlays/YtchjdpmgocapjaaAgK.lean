/- An append of one entry to a queue: what stands behind it. -/
import Derived.Test.YtchjdpmgocapjaaAgJ
import Derived.Test.YtchjdpmgocapjaaAgI
namespace Go.Proofs.Ytchjdpmgocapjaa
open Go.RowKit Go.Shelf

theorem fr_grown {w w' : World} {r : Option Nat} (h : w.grownBy w' r) : Fr (fun q => r = some q) w w' := ⟨⟨h.os, h.tape, h.output, h.size, fun k hk => absurd hk (Nat.not_lt_zero k)⟩, fun k hk hA => h.block k hk (fun e => hA e.symm)⟩
theorem run_appQ (ty : TypeId) (v : Value) (n : Nat) (xs : List Value) (w : World) (hown : w.ownsRow 0 86 1 v n xs) (b : Nat) (u : Value) (hb : w.heap[b]? = some (.cells #[u] 86 (0, 0))) (hu : u.oneCell' = true) (hn : n + 1 ≤ 2097153) :
    ∃ g' c' cur w', (Builtin.append_ #[80, 80] ty #[v, .slice (some ⟨b, 0, none⟩) 1 1]).run Try.prog w = .ok (.slice (some ⟨g', 0, none⟩) (n + 1) c') w' ∧ w'.heap[g']? = some (.cells cur 86 (0, 0)) ∧ n + 1 ≤ c' ∧ c' ≤ maxLen ∧ cur.size = c' ∧ cur.toList.take (n + 1) = xs ++ [u] ∧ Fr (fun q => v.ownBlock = some q) w w' ∧ (v.ownBlock = some g' ∨ g' = w.heap.size) := by
  obtain ⟨i0, hi0, hz0, hz1, hz2⟩ := info_parts info86
  obtain ⟨v', w', hr, h2, h3, _, h5⟩ := run_append_own_at (P := Try.prog) w 0 80 ty 86 i0 _ 1 8 Try.underlying80 hi0 hz0 hz1 hz2 rfl (by decide) v n xs hown ⟨b, 0, none⟩ 1 1 [u] rfl (fun j x hj => by
    match j, hj with
    | 0, hj => cases hj; exact cell_box hb rfl) (by simpa using hu) (by unfold maxLen; omega) (by omega) (Nat.zero_le _)
  rcases h2.2 with ⟨e1, e2⟩ | ⟨g, c, cur, e1, _, e3, e4, e5, e6, e7⟩
  · exact absurd e2 (by omega)
  · subst e1
    rw [Nat.mul_one] at e7
    refine ⟨g, c, cur, w', hr, e3, by omega, by omega, by omega, e7, fr_grown h3, ?_⟩
    rcases h5 with h | h
    · exact .inl h.symm
    · exact .inr (Option.some.inj h)
/-- A queue's value: nil, or a row of entries. -/
def QZ (w : World) (v : Value) (es : List En) : Prop := (v = .slice none 0 0 ∧ es = []) ∨ ∃ g cap, v = .slice (some ⟨g, 0, none⟩) es.length cap ∧ QAt w g cap es
theorem QZ.own {w : World} {v : Value} {es : List En} (h : QZ w v es) : w.ownsRow 0 86 1 v es.length (es.map fun e => .pointer (some ⟨e.b, 0, none⟩)) := by
  rcases h with ⟨rfl, rfl⟩ | ⟨g, cap, rfl, h⟩
  · exact ⟨rfl, .inl ⟨rfl, rfl⟩⟩
  · exact h.own
theorem QZ.form {w : World} {v : Value} {es : List En} (h : QZ w v es) : ∃ p c, v = .slice p es.length c := by
  rcases h with ⟨rfl, rfl⟩ | ⟨g, cap, rfl, h⟩
  · exact ⟨_, _, rfl⟩
  · exact ⟨_, _, rfl⟩
/-- An entry more, behind all. -/
theorem push_fin {w W2 w3 : World} {v : Value} {es : List En} {A : Nat} {e : En} (hZ : QZ w v es) (hE2 : EnAt W2 e es.length) (hf : Fr (fun b => b = e.b) w W2) (hsz : w.heap.size ≤ W2.heap.size) (hne : ∀ k (h : k < es.length), es[k].b ≠ e.b) (hvb : v.ownBlock ≠ some e.b) (hvA : v.ownBlock ≠ some A) (hAl : A < w.heap.size)
    {g' c' : Nat} {cur : Array Value} (a1 : w3.heap[g']? = some (.cells cur 86 (0, 0))) (a2 : es.length + 1 ≤ c') (a3 : c' ≤ maxLen) (a4 : cur.size = c') (a5 : cur.toList.take (es.length + 1) = (es.map fun e => Value.pointer (some ⟨e.b, 0, none⟩)) ++ [.pointer (some ⟨e.b, 0, none⟩)]) (a6 : Fr (fun q => v.ownBlock = some q) W2 w3) (a7 : v.ownBlock = some g' ∨ g' = W2.heap.size) :
    QAt w3 g' c' (es ++ [e]) ∧ g' ≠ A := by
  have hbE : e.b < W2.heap.size := (Array.getElem?_eq_some_iff.1 hE2).1
  have own : ∀ k (h : k < es.length), v.ownBlock ≠ some es[k].b := fun k h hx => by
    rcases hZ with ⟨rfl, rfl⟩ | ⟨g, cap, rfl, hQ⟩
    · cases hx
    · exact hQ.far k h (Option.some.inj hx).symm
  have ents : ∀ k (h : k < es.length), EnAt w es[k] k := fun k h => by
    rcases hZ with ⟨rfl, rfl⟩ | ⟨g, cap, rfl, hQ⟩
    · exact absurd h (Nat.not_lt_zero _)
    · exact hQ.ents k h
  have once : ∀ i j (hi : i < es.length) (hj : j < es.length), es[i].b = es[j].b → i = j := fun i j hi hj he => by
    rcases hZ with ⟨rfl, rfl⟩ | ⟨g, cap, rfl, hQ⟩
    · exact absurd hi (Nat.not_lt_zero _)
    · exact hQ.once i j hi hj he
  have lts : ∀ k (h : k < es.length), es[k].b < w.heap.size := fun k h => (Array.getElem?_eq_some_iff.1 (ents k h)).1
  have at2 : ∀ i (h : i < (es ++ [e]).length), (i < es.length ∧ ∃ h', (es ++ [e])[i] = es[i]'h') ∨ (i = es.length ∧ (es ++ [e])[i] = e) := fun i h => by
    by_cases hi : i < es.length
    · exact .inl ⟨hi, hi, by rw [List.getElem_append_left hi]⟩
    · have : i = es.length := by simp at h; omega
      subst this
      exact .inr ⟨rfl, by simp⟩
  have gA : g' ≠ A := fun hx => by
    rcases a7 with h | h
    · exact hvA (by rw [h, hx])
    · omega
  have cell : ∀ i (h : i < es.length + 1), cur[i]? = ((es ++ [e])[i]?).map (fun e => Value.pointer (some ⟨e.b, 0, none⟩)) := fun i h => by
    have h1 : (cur.toList.take (es.length + 1))[i]? = cur[i]? := by rw [List.getElem?_take, if_pos h, Array.getElem?_toList]
    rw [← h1, a5, ← List.getElem?_map, List.map_append]
    rfl
  refine ⟨⟨⟨cur, a1, a4, fun i hi => ?_⟩, by simpa using a2, a3, fun i hi => ?_, fun i hi => ?_, fun i j hi hj he => ?_⟩, gA⟩
  · rw [cell i (by simpa using hi), List.getElem?_eq_getElem hi]
    rfl
  · rcases at2 i hi with ⟨h1, h2, h3⟩ | ⟨h1, h2⟩
    · rw [h3]
      have t1 := (hf.same _ (lts i h1) (hne i h1)).trans (ents i h1)
      exact (a6.same _ (by have := lts i h1; omega) (own i h1)).trans t1
    · rw [h2, h1]
      exact (a6.same _ hbE hvb).trans hE2
  · rcases at2 i hi with ⟨h1, h2, h3⟩ | ⟨h1, h2⟩
    · rw [h3]
      intro hx
      rcases a7 with h | h
      · exact own i h1 (by rw [h, hx])
      · have := lts i h1; omega
    · rw [h2]
      intro hx
      rcases a7 with h | h
      · exact hvb (by rw [h, hx])
      · omega
  · rcases at2 i hi with ⟨h1, h2, h3⟩ | ⟨h1, h2⟩ <;> rcases at2 j hj with ⟨k1, k2, k3⟩ | ⟨k1, k2⟩
    · rw [h3, k3] at he; exact once i j h1 k1 he
    · rw [h3, k2] at he; exact absurd he (hne i h1)
    · rw [h2, k3] at he; exact absurd he.symm (hne j k1)
    · omega
end Go.Proofs.Ytchjdpmgocapjaa
