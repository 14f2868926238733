/- What the document's Sorted answers: the terms in order, in a row of its own; their lists are those that came in. -/
import Derived.Test.YtokbgbbkopmngaaGreatRJoins
import Derived.Test.YtokbgbbkopmngaaGreatTRCmp
import Derived.Laws.AppendOwnNone
namespace Go.Proofs.YtokbgbbkopmngaaGreat
open Go.RowKit Go.Deep

def Kv.tn (k : Kv) : Tn := (k.x, k.l)
set_option maxRecDepth 100000 in
/-- Where one is laid into a list in order: ahead of all that are greater. -/
theorem ins_at {x : Tn} : ∀ {l : List Tn} {n : Nat}, Srt l → n ≤ l.length → (∀ j y, n ≤ j → l[j]? = some y → cmpN y x > 0) → (n = 0 ∨ ∀ y, l[n - 1]? = some y → cmpN y x ≤ 0) → insN x l = l.take n ++ x :: l.drop n
  | [], n, _, hn, _, _ => by simp at hn; subst hn; rfl
  | y :: r, 0, _, _, h1, _ => by
    have := h1 0 y (Nat.le_refl _) rfl
    rw [insN, if_pos this]
    rfl
  | y :: r, n + 1, hs, hn, h1, h2 => by
    obtain ⟨s1, s2⟩ := List.pairwise_cons.1 hs
    simp only [List.length_cons] at hn
    rcases h2 with h2 | h2
    · omega
    have hlt : n < (y :: r).length := by simp; omega
    have h3 := h2 ((y :: r)[n]) (by rw [Nat.add_sub_cancel]; exact List.getElem?_eq_getElem hlt)
    have hy : ¬ cmpN y x > 0 := by
      have : leN y x := by
        cases n with
        | zero => exact h3
        | succ n => exact leN_trans (s1 _ (by simp)) h3
      unfold leN at this
      omega
    rw [insN, if_neg hy, ins_at (n := n) s2 (by omega) (fun j z hj hz => h1 (j + 1) z (by omega) (by simpa using hz)) (by
      cases n with
      | zero => exact .inl rfl
      | succ n => exact .inr (fun z hz => h2 z (by simpa using hz)))]
    rfl
set_option maxRecDepth 100000 in
theorem sortN_snoc (l : List Tn) (x : Tn) : sortN (l ++ [x]) = insN x (sortN l) := by
  unfold sortN
  rw [List.foldl_append]
  rfl

/-! ### lists of terms in memory -/
set_option maxRecDepth 100000 in
theorem kvCells_append (a b : List Kv) : kvCells (a ++ b) = kvCells a ++ kvCells b := by simp [kvCells]
set_option maxRecDepth 100000 in
theorem kvCells_one : ∀ ks : List Kv, ∀ u ∈ kvCells ks, u.oneCell' = true := fun ks u hu => by
  obtain ⟨k, _, h⟩ := List.mem_flatMap.1 hu
  exact kv_one k u h
set_option maxRecDepth 100000 in
theorem kvCells_drop (ks : List Kv) (n : Nat) : kvCells (ks.drop n) = (kvCells ks).drop (n * 3) := by
  induction n generalizing ks with
  | zero => simp
  | succ n ih =>
    cases ks with
    | nil => simp [kvCells]
    | cons k r =>
      rw [List.drop_succ_cons, ih r]
      show _ = (k.cells ++ kvCells r).drop ((n + 1) * 3)
      rw [List.drop_append, show (n + 1) * 3 - k.cells.length = n * 3 by rw [show k.cells.length = 3 from rfl]; omega, (List.drop_eq_nil_of_le (by rw [show k.cells.length = 3 from rfl]; omega) : k.cells.drop ((n + 1) * 3) = [])]
      rfl
set_option maxRecDepth 100000 in
theorem kvCells_take (ks : List Kv) (n : Nat) : kvCells (ks.take n) = (kvCells ks).take (n * 3) := by
  induction n generalizing ks with
  | zero => simp [kvCells]
  | succ n ih =>
    cases ks with
    | nil => simp [kvCells]
    | cons k r =>
      rw [List.take_succ_cons]
      show k.cells ++ kvCells (r.take n) = (k.cells ++ kvCells r).take ((n + 1) * 3)
      rw [ih r, List.take_append, show (n + 1) * 3 - k.cells.length = n * 3 by rw [show k.cells.length = 3 from rfl]; omega, List.take_of_length_le (l := k.cells) (by rw [show k.cells.length = 3 from rfl]; omega)]
/-- The slice with this address holds these terms' cells. -/
structure RowAt (w : World) (a : Option Addr) (n : Nat) (ks : List Kv) : Prop where
  len : n = ks.length
  cells : ∀ j u, (kvCells ks)[j]? = some u → ∃ b off, a = some ⟨b, off, none⟩ ∧ w.cell? ⟨b, off + j, none⟩ = some u
set_option maxRecDepth 100000 in
theorem RowAt.below {w w' : World} {a : Option Addr} {n : Nat} {ks : List Kv} (h : RowAt w a n ks) (hb : Below w.heap.size w w') : RowAt w' a n ks :=
  ⟨h.len, fun j u hu => by obtain ⟨b, off, ha, hc⟩ := h.cells j u hu; exact ⟨b, off, ha, below_cell hb _ _ hc⟩⟩
set_option maxRecDepth 100000 in
theorem kv_cells {ks : List Kv} {j : Nat} {k : Kv} (h : ks[j]? = some k) : (kvCells ks)[j * 3]? = some (.string k.x.1) ∧ (kvCells ks)[j * 3 + 1]? = some (.int .i64 k.x.2) ∧ (kvCells ks)[j * 3 + 2]? = some (.slice k.a (lenF k.l) k.c) := by
  have e := kvCells_drop ks j
  obtain ⟨hlt, hk⟩ := List.getElem?_eq_some_iff.1 h
  rw [List.drop_eq_getElem_cons hlt, hk] at e
  have e2 : ∀ i, i < 3 → (kvCells ks)[j * 3 + i]? = (k.cells)[i]? := fun i hi => by
    rw [← List.getElem?_drop, ← e]
    show (k.cells ++ kvCells _)[i]? = _
    rw [List.getElem?_append_left (by simp [Kv.cells]; exact hi)]
  exact ⟨e2 0 (by omega), e2 1 (by omega), e2 2 (by omega)⟩
set_option maxRecDepth 100000 in
/-- The cells of one of them. -/
theorem RowAt.get {w : World} {a : Option Addr} {n : Nat} {ks : List Kv} (h : RowAt w a n ks) {j : Nat} {k : Kv} (hk : ks[j]? = some k) : ∃ b off, a = some ⟨b, off, none⟩ ∧ w.cell? ⟨b, off + j * 3, none⟩ = some (.string k.x.1) ∧ w.cell? ⟨b, off + j * 3 + 1, none⟩ = some (.int .i64 k.x.2) ∧ w.cell? ⟨b, off + j * 3 + 2, none⟩ = some (.slice k.a (lenF k.l) k.c) := by
  obtain ⟨h0, h1, h2⟩ := kv_cells hk
  obtain ⟨b, off, rfl, c0⟩ := h.cells _ _ h0
  obtain ⟨_, _, e1, c1⟩ := h.cells _ _ h1
  obtain ⟨_, _, e2, c2⟩ := h.cells _ _ h2
  cases e1
  cases e2
  exact ⟨b, off, rfl, c0, by rw [← Nat.add_assoc] at c1; exact c1, by rw [← Nat.add_assoc] at c2; exact c2⟩
set_option maxRecDepth 100000 in
theorem row_of_owns {w : World} {base n : Nat} {v : Value} {ks : List Kv} (h : w.ownsRow base 26 3 v n (kvCells ks)) : ∃ a cap, v = .slice a n cap ∧ n ≤ cap ∧ cap ≤ maxLen ∧ RowAt w a n ks ∧ (a = none → n = 0 ∧ cap = 0) ∧ (∀ b off sp, a = some ⟨b, off, sp⟩ → base ≤ b ∧ off = 0 ∧ sp = none) := by
  have hl : ks.length = n := by have := h.1; rw [kvCells_len] at this; omega
  rcases h.2 with ⟨rfl, h0⟩ | ⟨g, cap, cur, rfl, hb, hg, hnc, hcm, hsz, hcur⟩
  · obtain rfl : ks = [] := List.length_eq_zero_iff.1 (hl.trans h0)
    exact ⟨none, 0, by rw [h0], by omega, by simp, ⟨by omega, fun j u hu => by simp [kvCells] at hu⟩, fun _ => ⟨h0, rfl⟩, fun b off sp e => by cases e⟩
  · exact ⟨_, cap, rfl, hnc, hcm, ⟨hl.symm, fun j u hu => ⟨g, 0, rfl, owns_at h j u hu⟩⟩, (fun e => by cases e), (fun b off sp e => by cases e; exact ⟨hb, rfl, rfl⟩)⟩

set_option maxRecDepth 100000 in
/-- append of what another slice holds, be it nil, be it empty. -/
theorem wpList_append_kvs {ops : Array Oper} {rest : List Oper} {o : Oper} {a : Act} {Q : Exit → Act → World → Prop} {W : World} (hgd : o.guard = none) (s x : Operand)
    (ho : o.op = .call { callee := .builtin .append, args := #[s, x], argTypes := #[24, 24] }) (base : Nat) (v : Value) (ks : List Kv) (hs : a.eval s = v) (hown : W.ownsRow base 26 3 v ks.length (kvCells ks))
    (sa : Option Addr) (m c : Nat) (ms : List Kv) (hx : a.eval x = .slice sa m c) (hm : RowAt W sa m ms) (hnil : sa = none → c = 0) (hbig : ks.length + m ≤ 4194304) (hbase : base ≤ W.heap.size)
    (h : ∀ v' w', w'.ownsRow base 26 3 v' (ks ++ ms).length (kvCells (ks ++ ms)) → W.grownBy w' v.ownBlock → wpList Tryz.prog ops Q rest (a.put o.dst v') w') : wpList Tryz.prog ops Q (o :: rest) a W := by
  obtain ⟨i0, hi, hz0, hz1, hz2⟩ := info_parts Tryz.info26
  have hmax : maxLen = 9223372036854775807 := rfl
  rcases sa with _ | ⟨b, off, sp⟩
  · obtain rfl : ms = [] := by
      cases ms with
      | nil => rfl
      | cons k r =>
        obtain ⟨_, _, e, _⟩ := hm.get (j := 0) (k := k) rfl
        cases e
    obtain rfl := hm.len
    obtain rfl := hnil rfl
    refine wpList_append_own_none hgd s x 24 ho base 26 i0 3 Tryz.underlying24 hi v ks.length (kvCells ks) hs hown hx (h v W (by simpa using hown) ?_)
    exact ⟨rfl, rfl, rfl, Nat.le_refl _, fun _ _ _ => rfl⟩
  · have hlm := hm.len
    refine wpList_append_own _ hgd s x 24 ho base 26 i0 _ 3 48 Tryz.underlying24 hi hz0 hz1 hz2 rfl (by decide) v ks.length (kvCells ks) hs hown ⟨b, off, sp⟩ m c (kvCells ms) hx (by rw [kvCells_len, hlm]) (fun j u hu => ?_) (kvCells_one ms) (by omega) (by omega) hbase ?_
    · obtain ⟨b', off', e, hc⟩ := hm.cells j u hu
      cases e
      rw [← hc]
      congr 1
      unfold Addr.add
      split <;> simp_all
    · intro v' w' h1 h2 _
      refine h v' w' ?_ h2
      rw [kvCells_append, List.length_append, ← hlm]
      exact h1
end Go.Proofs.YtokbgbbkopmngaaGreat
