/- The document's agenda in memory; its next. -/
import Derived.Test.YtchjdpmgocapjaaAgAi
import Derived.Test.YtchjdpmgocapjaaAgIn
namespace Go.Proofs.Ytchjdpmgocapjaa
open Go.RowKit Go.Shelf

/-- A thing's cells. -/
def thC (t : Th) : List Value := [.int .i64 t.x, .int .i64 t.wt, .int .i64 t.tk]
def thAll (L : List Th) : List Value := L.flatMap thC
theorem thAll_len (L : List Th) : (thAll L).length = L.length * 3 := by
  induction L with
  | nil => rfl
  | cons t r ih =>
    show (thC t ++ thAll r).length = _
    rw [List.length_append, ih]
    simp [thC]
    omega
theorem thAll_app (A B : List Th) : thAll (A ++ B) = thAll A ++ thAll B := List.flatMap_append
theorem thAll_nth : ∀ (L : List Th) (i c : Nat) (hi : i < L.length), c < 3 → (thAll L)[i * 3 + c]? = (thC L[i])[c]?
  | [], _, _, h, _ => by simp at h
  | t :: r, 0, c, _, hc => by
    show (thC t ++ thAll r)[0 * 3 + c]? = _
    rw [Nat.zero_mul, Nat.zero_add, List.getElem?_append_left (by simpa [thC] using hc)]
    rfl
  | t :: r, i + 1, c, h, hc => by
    show (thC t ++ thAll r)[(i + 1) * 3 + c]? = _
    rw [List.getElem?_append_right (by simp [thC]; omega), show (i + 1) * 3 + c - (thC t).length = i * 3 + c by simp [thC]; omega]
    exact thAll_nth r i c (by simpa using h) hc
theorem th_one (t : Th) : ∀ v ∈ thC t, v.oneCell' = true := fun v hv => by simp [thC] at hv; rcases hv with rfl | rfl | rfl <;> rfl
theorem all_one' (L : List Th) : ∀ v ∈ thAll L, v.oneCell' = true := fun v hv => by
  obtain ⟨t, _, h⟩ := List.mem_flatMap.1 hv
  exact th_one t v h
/-- A row of things that the document's agenda has made. -/
def TOwn (w : World) (v : Value) (L : List Th) : Prop := w.ownsRow 0 85 3 v L.length (thAll L)
theorem town_nil (w : World) : TOwn w (.slice none 0 0) [] := ⟨rfl, .inl ⟨rfl, rfl⟩⟩
theorem TOwn.form {w : World} {v : Value} {L : List Th} (h : TOwn w v L) : ∃ p c, v = .slice p L.length c := by
  rcases h.2 with ⟨h1, h2⟩ | ⟨g, cap, cur, h1, _⟩
  · rw [h2]; exact ⟨_, _, h1⟩
  · exact ⟨_, _, h1⟩
theorem TOwn.row {w : World} {v : Value} {L : List Th} (h : TOwn w v L) {g : Nat} (hg : v.ownBlock = some g) : ∃ cur, w.heap[g]? = some (.cells cur 85 (0, 0)) := by
  rcases h.2 with ⟨rfl, _⟩ | ⟨g', cap, cur, rfl, _, h3, _⟩
  · cases hg
  · cases hg
    exact ⟨cur, h3⟩
theorem TOwn.fr {P : Nat → Prop} {w w' : World} {v : Value} {L : List Th} (h : TOwn w v L) (hf : Fr P w w') (hv : ∀ g, v.ownBlock = some g → ¬ P g) : TOwn w' v L := by
  refine ⟨h.1, ?_⟩
  rcases h.2 with h1 | ⟨g, cap, cur, rfl, h2, h3, h4⟩
  · exact .inl h1
  · exact .inr ⟨g, cap, cur, rfl, h2, (hf.same g (Array.getElem?_eq_some_iff.1 h3).1 (hv g rfl)).trans h3, h4⟩
/-- A row with something in it. -/
theorem TOwn.some {w : World} {p : Option Addr} {n c : Nat} {L : List Th} (h : TOwn w (.slice p n c) L) (hL : 0 < L.length) : ∃ g cur, p = some ⟨g, 0, none⟩ ∧ n = L.length ∧ L.length ≤ c ∧ c ≤ maxLen ∧ w.heap[g]? = Option.some (.cells cur 85 (0, 0)) ∧ cur.size = c * 3 ∧ ∀ i (hi : i < L.length) k, k < 3 → cur[i * 3 + k]? = (thC L[i])[k]? := by
  rcases h.2 with ⟨h1, h2⟩ | ⟨g, cap, cur, h1, h2, h3, h4, h5, h6, h7⟩
  · omega
  · injection h1 with e1 e2 e3
    subst e1 e2 e3
    refine ⟨g, cur, rfl, rfl, h4, h5, h3, h6, fun i hi k hk => ?_⟩
    have h8 : (cur.toList.take (L.length * 3))[i * 3 + k]? = (thAll L)[i * 3 + k]? := by rw [h7]
    rw [List.getElem?_take, if_pos (by omega), Array.getElem?_toList, thAll_nth L i k hi hk] at h8
    exact h8
/-- The place of the next; -1: there is none. -/
def nxV (L : List Th) : Int := if L = [] then -1 else (nxI L : Int)
theorem take_ne {L : List Th} {n : Nat} (hn : n ≤ L.length) (h0 : 0 < n) : L.take n ≠ [] := fun e => by
  have h := congrArg List.length e
  rw [List.length_take, List.length_nil] at h
  omega
/-- .. among the first n. -/
theorem nx_take {L : List Th} {n a : Nat} (hn : n < L.length) (ha : a < L.length) (h : IsNx (L.take n) a) : IsNx (L.take (n + 1)) (if L[n].wt < L[a].wt then n else a) := by
  obtain ⟨a1, a2, a3⟩ := h
  have hl : (L.take n).length = n := by rw [List.length_take]; omega
  have hl2 : (L.take (n + 1)).length = n + 1 := by rw [List.length_take]; omega
  have at1 : ∀ j (h1 : j < (L.take n).length) (h2 : j < L.length), (L.take n)[j] = L[j] := fun j _ _ => List.getElem_take
  have at2 : ∀ j (h1 : j < (L.take (n + 1)).length) (h2 : j < L.length), (L.take (n + 1))[j] = L[j] := fun j _ _ => List.getElem_take
  rw [hl] at a1
  split
  · rename_i hlt
    refine ⟨by omega, fun j hj => ?_, fun j hj => ?_⟩
    · rw [at2 _ _ hn, at2 j hj (by omega)]
      by_cases hjn : j = n
      · subst hjn; omega
      · have := a2 j (by omega)
        rw [at1 _ _ (by omega), at1 j _ (by omega)] at this
        omega
    · rw [at2 _ _ hn, at2 j _ (by omega)]
      have := a2 j (by omega)
      rw [at1 _ _ (by omega), at1 j _ (by omega)] at this
      omega
  · rename_i hlt
    refine ⟨by omega, fun j hj => ?_, fun j hj => ?_⟩
    · rw [at2 _ _ (by omega), at2 j hj (by omega)]
      by_cases hjn : j = n
      · subst hjn; omega
      · have := a2 j (by omega)
        rw [at1 _ _ (by omega), at1 j _ (by omega)] at this
        exact this
    · rw [at2 _ _ (by omega), at2 j _ (by omega)]
      have := a3 j hj
      rw [at1 _ _ (by omega), at1 j _ (by omega)] at this
      exact this
theorem nx_take_eq {L : List Th} {n : Nat} (hn : n < L.length) (h0 : 0 < n) (hx : nxI (L.take n) < L.length) : nxI (L.take (n + 1)) = if L[n].wt < L[nxI (L.take n)].wt then n else nxI (L.take n) :=
  nx_one (nx_is _ (take_ne (n := n + 1) hn (by omega))) (nx_take hn hx (nx_is _ (take_ne (Nat.le_of_lt hn) h0)))
end Go.Proofs.Ytchjdpmgocapjaa
