/- Rows of rows that a call has made; the part behind a part, in the list of all. -/
import Derived.Test.YtdpdpjfnanjmgaaDoorSpAe
import Derived.Test.YtdpdpjfnanjmgaaDoorSpAc
namespace Go.Proofs.YtdpdpjfnanjmgaaDoor
open Go.RowKit Go.Shelf

theorem chn_next {k : Nat} {left : List Nat} : ∀ {a : List (List Nat)} {p q : List Nat} {l : List (List Nat)}, Chn k left (a ++ p :: q :: l) → nextP k left p = some q
  | [], _, _, _, h => h.1
  | [_], _, _, _, h => h.2.1
  | _ :: y :: a, _, _, _, h => chn_next (a := y :: a) h.2
theorem box_next {k : Nat} (hk : 1 ≤ k) {left p : List Nat} {done rest : List (List Nat)} (h : boxes k left = done ++ p :: rest) : nextP k left p = rest.head? := by
  obtain ⟨h1, a, p', h2, h3⟩ := boxes_chn hk left
  cases rest with
  | nil =>
    rw [h] at h2
    have h4 := List.append_inj' h2 rfl
    have h5 : p = p' := by simpa using h4.2
    rw [h5, h3]; rfl
  | cons q l =>
    rw [h] at h1
    rw [chn_next h1]; rfl
/-- Blocks of all other types stay. -/
def Typ (e : Nat) (w w' : World) : Prop := ∀ (b : Nat) (cs : Array Value) (t : Nat), t ≠ e → w.heap[b]? = some (Obj.cells cs t (0, 0)) → w'.heap[b]? = some (Obj.cells cs t (0, 0))
theorem Typ.refl (e : Nat) (w : World) : Typ e w w := fun _ _ _ _ h => h
theorem Typ.trans {e : Nat} {w w' w'' : World} (h : Typ e w w') (k : Typ e w' w'') : Typ e w w'' := fun b cs t ht hb => k b cs t ht (h b cs t ht hb)
theorem Typ.of_below {e : Nat} {w w' : World} (h : Below w.heap.size w w') : Typ e w w' := fun b _ _ _ hb => (h.block b (Array.getElem?_eq_some_iff.1 hb).1).trans hb
theorem Typ.of_fr {e : Nat} {A : Nat → Prop} {w w' : World} (h : Fr A w w') (hA : ∀ b, A b → ∃ cs, w.heap[b]? = some (.cells cs e (0, 0))) : Typ e w w' := fun b cs t ht hb => (h.same b (Array.getElem?_eq_some_iff.1 hb).1 (fun ha => by
  obtain ⟨cs', h9⟩ := hA b ha
  rw [hb] at h9
  injection h9 with h9
  injection h9 with _ h9
  exact ht h9)).trans hb
theorem own_typ {w w' : World} {base e e' : Nat} {v : Value} {n : Nat} {xs : List Value} (h : w.ownsRow base e 1 v n xs) (hne : e ≠ e') (ht : Typ e' w w') : w'.ownsRow base e 1 v n xs :=
  ⟨h.1, by
    rcases h.2 with h0 | ⟨g, cap, cur, h1, h2, h3, h4⟩
    · exact .inl h0
    · exact .inr ⟨g, cap, cur, h1, h2, ht _ _ _ hne h3, h4⟩⟩
theorem own_same {w w' : World} {base e : Nat} {v : Value} {n : Nat} {xs : List Value} (h : w.ownsRow base e 1 v n xs) (hs : ∀ b, v.ownBlock = some b → w'.heap[b]? = w.heap[b]?) : w'.ownsRow base e 1 v n xs :=
  ⟨h.1, by
    rcases h.2 with h0 | ⟨g, cap, cur, h1, h2, h3, h4⟩
    · exact .inl h0
    · exact .inr ⟨g, cap, cur, h1, h2, (hs g (by rw [h1]; rfl)).trans h3, h4⟩⟩
theorem own_blk {w : World} {base e : Nat} {v : Value} {n : Nat} {xs : List Value} (h : w.ownsRow base e 1 v n xs) {b : Nat} (hb : v.ownBlock = some b) : base ≤ b ∧ b < w.heap.size ∧ ∃ cs, w.heap[b]? = some (.cells cs e (0, 0)) := by
  rcases h.2 with ⟨h1, _⟩ | ⟨g, cap, cur, h1, h2, h3, h4⟩
  · rw [h1] at hb; cases hb
  · rw [h1] at hb
    have := Option.some.inj hb
    subst this
    exact ⟨h2, (Array.getElem?_eq_some_iff.1 h3).1, _, h3⟩
theorem own_below {w w' : World} {base e : Nat} {v : Value} {n : Nat} {xs : List Value} (h : w.ownsRow base e 1 v n xs) (hb : Below w.heap.size w w') : w'.ownsRow base e 1 v n xs := own_same h fun b hv => hb.block b (own_blk h hv).2.1
theorem own_form {w : World} {base e : Nat} {v : Value} {n : Nat} {xs : List Value} (h : w.ownsRow base e 1 v n xs) : ∃ p c, v = .slice p n c ∧ (p = none → c = 0) := by
  rcases h.2 with ⟨h2, h3⟩ | ⟨g, c, _, h2, _⟩
  · exact ⟨none, 0, by rw [h2, h3], fun _ => rfl⟩
  · exact ⟨_, _, h2, fun h => by cases h⟩
theorem own_cell {w : World} {base e : Nat} {a : Option Addr} {c n : Nat} {xs : List Value} (h : w.ownsRow base e 1 (.slice a n c) n xs) {i : Nat} (hi : i < xs.length) : ∃ g, a = some ⟨g, 0, none⟩ ∧ w.cell? ⟨g, i, none⟩ = some xs[i] := by
  have hl := h.1
  rcases h.2 with ⟨h1, h2⟩ | ⟨g, cap, cur, h1, h2, h3, h4, h5, h6, h7⟩
  · rw [h2] at hl; omega
  · injection h1 with h1 _ _
    refine ⟨g, h1, ?_⟩
    rw [cell_of_row w g _ _ e (0, 0) h3]
    have e1 : (cur.toList.take (n * 1))[i]? = xs[i]? := by rw [h7]
    rw [List.getElem?_take_of_lt (by omega), List.getElem?_eq_getElem hi] at e1
    simpa using e1
theorem own_small {w : World} {base e : Nat} {v : Value} {n : Nat} {xs : List Value} (h : w.ownsRow base e 1 v n xs) : n ≤ maxLen := by
  rcases h.2 with ⟨_, h2⟩ | ⟨g, cap, cur, h1, h2, h3, h4, h5, h6, h7⟩
  · rw [h2]; exact Nat.zero_le _
  · exact Nat.le_trans h4 h5
/-- An append to a row of one's own. -/
theorem run_appG {P : Program} (t ty e : TypeId) (i0 : TypeInfo) (z : Value) (bytes : Nat) (ht : P.underlying t = some (.slice e)) (hi : P.info? e = some i0) (hz : i0.zero = some z) (hs : i0.size = 1) (hby : i0.bytes = bytes) (hzc : z.cells.size = 1) (hb24 : bytes ≤ 24)
    (base : Nat) (v : Value) (n : Nat) (xs : List Value) (w : World) (hown : w.ownsRow base e 1 v n xs) (px : Option Addr) (m cx : Nat) (news : List Value)
    (hsrc : (px = none ∧ m = 0 ∧ cx = 0 ∧ news = []) ∨ ∃ ad, px = some ad ∧ news.length = m ∧ ∀ j u, news[j]? = some u → w.cell? (ad.add j) = some u) (h1 : ∀ u ∈ news, u.oneCell' = true) (hb : n + m ≤ 2097153) (hbase : base ≤ w.heap.size) :
    ∃ p' c' w', (Builtin.append_ #[t, t] ty #[v, .slice px m cx]).run P w = .ok (.slice p' (n + m) c') w' ∧ w'.ownsRow base e 1 (.slice p' (n + m) c') (n + m) (xs ++ news) ∧ Fr (fun q => v.ownBlock = some q) w w' ∧ ((Value.slice p' (n + m) c').ownBlock = v.ownBlock ∨ (Value.slice p' (n + m) c').ownBlock = some w.heap.size) := by
  rcases hsrc with ⟨rfl, rfl, rfl, rfl⟩ | ⟨ad, rfl, hl, hnews⟩
  · obtain ⟨p', c', rfl, -⟩ := own_form hown
    refine ⟨p', c', w, run_append_owned_none (P := P) (w := w) base t ty e i0 1 ht hi _ n xs hown, ?_, Fr.refl _ _, .inl rfl⟩
    rw [List.append_nil]
    exact hown
  · obtain ⟨v', w', hr, h2, h3, _, h5⟩ := run_append_own_at (P := P) (w := w) base t ty e i0 z 1 bytes ht hi hz hs hby hzc (by decide) v n xs hown ad m cx news (by rw [hl, Nat.mul_one]) hnews h1 (by unfold maxLen; omega) (Nat.le_trans (Nat.mul_le_mul hb hb24) (by decide)) hbase
    obtain ⟨p', c', rfl, -⟩ := own_form h2
    exact ⟨p', c', w', hr, h2, (fr_grown h3).mono (fun q hq => hq), h5⟩
/-- A row of rows of one's own. -/
def WayZ (w : World) (base : Nat) (v : Value) (R : List (List Nat)) : Prop := ∃ xs, w.ownsRow base 23 1 v R.length xs ∧ ∀ i (h : i < R.length), ∃ p c, xs[i]? = some (.slice p R[i].length c) ∧ CRow w base p c (up R[i])
theorem CRow.typ {w w' : World} {base : Nat} {q : Option Addr} {d : Nat} {ns : List Int} (h : CRow w base q d ns) (ht : Typ 36 w w') : CRow w' base q d ns := own_typ h (by decide) ht
theorem CRow.typ23 {w w' : World} {base : Nat} {q : Option Addr} {d : Nat} {ns : List Int} (h : CRow w base q d ns) (ht : Typ 23 w w') : CRow w' base q d ns := own_typ h (by decide) ht
theorem WayZ.typ {w w' : World} {base : Nat} {v : Value} {R : List (List Nat)} (h : WayZ w base v R) (ht : Typ 36 w w') : WayZ w' base v R := by
  obtain ⟨xs, h1, h2⟩ := h
  refine ⟨xs, own_typ h1 (by decide) ht, fun i hi => ?_⟩
  obtain ⟨p, c, g1, g2⟩ := h2 i hi
  exact ⟨p, c, g1, g2.typ ht⟩
theorem WayZ.below {w w' : World} {base : Nat} {v : Value} {R : List (List Nat)} (h : WayZ w base v R) (hb : Below w.heap.size w w') : WayZ w' base v R := h.typ (Typ.of_below hb)
theorem WayZ.mono {w : World} {base base' : Nat} {v : Value} {R : List (List Nat)} (h : WayZ w base v R) (hb : base' ≤ base) : WayZ w base' v R := by
  obtain ⟨xs, h1, h2⟩ := h
  refine ⟨xs, ⟨h1.1, ?_⟩, fun i hi => ?_⟩
  · rcases h1.2 with h0 | ⟨g, cap, cur, h1, h2, h3⟩
    · exact .inl h0
    · exact .inr ⟨g, cap, cur, h1, Nat.le_trans hb h2, h3⟩
  · obtain ⟨p, c, g1, g2⟩ := h2 i hi
    exact ⟨p, c, g1, g2.mono hb⟩
theorem WayZ.nil (w : World) (base : Nat) : WayZ w base (.slice none 0 0) [] := ⟨[], World.ownsRow_nil _ _ _ _, fun i hi => absurd hi (Nat.not_lt_zero i)⟩
/-- One row more: the cells that are appended. -/
theorem WayZ.push {w w' : World} {base : Nat} {v' : Value} {R : List (List Nat)} {xs : List Value} {r : List Nat} {p : Option Addr} {c : Nat} (hr : ∀ i (h : i < R.length), ∃ p c, xs[i]? = some (.slice p R[i].length c) ∧ CRow w base p c (up R[i])) (hl : xs.length = R.length)
    (ho : w'.ownsRow base 23 1 v' (R.length + 1) (xs ++ [.slice p r.length c])) (ht : Typ 23 w w') (hc : CRow w' base p c (up r)) : WayZ w' base v' (R ++ [r]) := by
  refine ⟨_, by rw [List.length_append, List.length_singleton]; exact ho, fun i hi => ?_⟩
  by_cases h : i < R.length
  · obtain ⟨p', c', g1, g2⟩ := hr i h
    refine ⟨p', c', ?_, ?_⟩
    · rw [List.getElem?_append_left (by omega), g1, List.getElem_append_left h]
    · rw [List.getElem_append_left h]
      exact g2.typ23 ht
  · rw [List.length_append, List.length_singleton] at hi
    have e : i = R.length := by omega
    subst e
    refine ⟨p, c, ?_, ?_⟩
    · rw [List.getElem?_append_right (by omega), hl, Nat.sub_self, List.getElem_append_right (by omega)]
      simp
    · rw [List.getElem_append_right (by omega)]
      simpa using hc
/-- Ways of one's own, in a row of one's own. -/
def WaysZ (w : World) (base : Nat) (v : Value) (L : List (List (List Nat))) : Prop := ∃ xs, w.ownsRow base 36 1 v L.length xs ∧ ∀ i (h : i < L.length), ∃ x, xs[i]? = some x ∧ WayZ w base x L[i]
theorem WaysZ.below {w w' : World} {base : Nat} {v : Value} {L : List (List (List Nat))} (h : WaysZ w base v L) (hb : Below w.heap.size w w') : WaysZ w' base v L := by
  obtain ⟨xs, h1, h2⟩ := h
  refine ⟨xs, own_below h1 hb, fun i hi => ?_⟩
  obtain ⟨x, g1, g2⟩ := h2 i hi
  exact ⟨x, g1, g2.below hb⟩
theorem WaysZ.nil (w : World) (base : Nat) : WaysZ w base (.slice none 0 0) [] := ⟨[], World.ownsRow_nil _ _ _ _, fun i hi => absurd hi (Nat.not_lt_zero i)⟩
theorem WaysZ.typ {w w' : World} {base : Nat} {v : Value} {L : List (List (List Nat))} (h : WaysZ w base v L) (hs : ∀ b, v.ownBlock = some b → w'.heap[b]? = w.heap[b]?) (ht : Typ 36 w w') : WaysZ w' base v L := by
  obtain ⟨xs, h1, h2⟩ := h
  refine ⟨xs, own_same h1 hs, fun i hi => ?_⟩
  obtain ⟨x, g1, g2⟩ := h2 i hi
  exact ⟨x, g1, g2.typ ht⟩
theorem WaysZ.push {w w' : World} {base : Nat} {v' : Value} {L : List (List (List Nat))} {xs : List Value} {R : List (List Nat)} {x : Value} (hr : ∀ i (h : i < L.length), ∃ x, xs[i]? = some x ∧ WayZ w base x L[i]) (hl : xs.length = L.length)
    (ho : w'.ownsRow base 36 1 v' (L.length + 1) (xs ++ [x])) (ht : Typ 36 w w') (hc : WayZ w' base x R) : WaysZ w' base v' (L ++ [R]) := by
  refine ⟨_, by rw [List.length_append, List.length_singleton]; exact ho, fun i hi => ?_⟩
  by_cases h : i < L.length
  · obtain ⟨x', g1, g2⟩ := hr i h
    refine ⟨x', ?_, ?_⟩
    · rw [List.getElem?_append_left (by omega), g1]
    · rw [List.getElem_append_left h]
      exact g2.typ ht
  · rw [List.length_append, List.length_singleton] at hi
    have e : i = L.length := by omega
    subst e
    refine ⟨x, ?_, ?_⟩
    · rw [List.getElem?_append_right (by omega), hl, Nat.sub_self]
      simp
    · rw [List.getElem_append_right (by omega)]
      simpa using hc
theorem WayZ.one {w : World} {base : Nat} {v : Value} {R : List (List Nat)} (h : WayZ w base v R) : ∃ p c, v = .slice p R.length c := by
  obtain ⟨xs, h1, _⟩ := h
  obtain ⟨p, c, h2, _⟩ := own_form h1
  exact ⟨p, c, h2⟩
/-- Ways as tables of numbers. -/
theorem WayZ.rows {w : World} {base : Nat} {a : Option Addr} {c : Nat} {R : List (List Nat)} (h : WayZ w base (.slice a R.length c) R) : RowsAt w a (R.map up) := by
  obtain ⟨xs, h1, h2⟩ := h
  have hl : xs.length = R.length := by have := h1.1; omega
  refine ⟨by rw [List.length_map]; exact own_small h1, fun i hi => ?_⟩
  rw [List.length_map] at hi
  obtain ⟨g, rfl, hg⟩ := own_cell h1 (i := i) (by omega)
  obtain ⟨p, c', k1, k2⟩ := h2 i hi
  have e1 : xs[i]'(by omega) = .slice p R[i].length c' := by
    rw [List.getElem?_eq_getElem (by omega)] at k1
    exact Option.some.inj k1
  rw [e1] at hg
  refine ⟨g, 0, p, c', rfl, ?_, ?_⟩
  · rw [Nat.zero_add, hg, List.getElem_map, up_len]
  · rw [List.getElem_map]
    exact k2.ints
end Go.Proofs.YtdpdpjfnanjmgaaDoor
