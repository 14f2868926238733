/- A list of terms under way: a row of its own, the terms' lists elsewhere. -/
import Derived.Test.YtkcbhbkldcebiaaTOwn
import Derived.Test.YtkcbhbkldcebiaaTPath
import Derived.Test.YtkcbhbkldcebiaaTBase
import Derived.Test.YtkcbhbkldcebiaaTLent
import Derived.Deep.AppendLies
import Derived.Laws.AppendOwnNone
namespace Go.Proofs.Ytkcbhbkldcebiaa
open Go.RowKit Go.Deep

def Kv.tn (k : Kv) : Tn := (k.x, k.l)
set_option maxRecDepth 100000 in
theorem kvCells_append (a b : List Kv) : kvCells (a ++ b) = kvCells a ++ kvCells b := by simp [kvCells]
set_option maxRecDepth 100000 in
theorem kvCells_one : ∀ ks : List Kv, ∀ u ∈ kvCells ks, u.oneCell' = true := fun ks u hu => by
  obtain ⟨k, _, h⟩ := List.mem_flatMap.1 hu
  exact kv_one k u h
/-- The slice with this address holds these terms' cells. -/
structure RowAt (w : World) (a : Option Addr) (n : Nat) (ks : List Kv) : Prop where
  len : n = ks.length
  cells : ∀ j u, (kvCells ks)[j]? = some u → ∃ b off, a = some ⟨b, off, none⟩ ∧ w.cell? ⟨b, off + j, none⟩ = some u
set_option maxRecDepth 100000 in
theorem RowAt.below {w w' : World} {a : Option Addr} {n : Nat} {ks : List Kv} (h : RowAt w a n ks) (hb : Below w.heap.size w w') : RowAt w' a n ks :=
  ⟨h.len, fun j u hu => by obtain ⟨b, off, ha, hc⟩ := h.cells j u hu; exact ⟨b, off, ha, below_cell hb _ _ hc⟩⟩
set_option maxRecDepth 100000 in
theorem kvCells_drop (ks : List Kv) (n : Nat) : kvCells (ks.drop n) = (kvCells ks).drop (n * 3) := by
  induction n generalizing ks with
  | zero => simp
  | succ n ih =>
    cases ks with
    | nil => simp [kvCells]
    | cons k r =>
      rw [List.drop_succ_cons, ih r]
      show _ = (k.cells ++ kvCells r).drop ((n + 1) * 3)
      rw [List.drop_append, show (n + 1) * 3 - k.cells.length = n * 3 by rw [show k.cells.length = 3 from rfl]; omega, (List.drop_eq_nil_of_le (by rw [show k.cells.length = 3 from rfl]; omega) : k.cells.drop ((n + 1) * 3) = [])]
      rfl
set_option maxRecDepth 100000 in
theorem kvCells_take (ks : List Kv) (n : Nat) : kvCells (ks.take n) = (kvCells ks).take (n * 3) := by
  induction n generalizing ks with
  | zero => simp [kvCells]
  | succ n ih =>
    cases ks with
    | nil => simp [kvCells]
    | cons k r =>
      rw [List.take_succ_cons]
      show k.cells ++ kvCells (r.take n) = (k.cells ++ kvCells r).take ((n + 1) * 3)
      rw [ih r, List.take_append, show (n + 1) * 3 - k.cells.length = n * 3 by rw [show k.cells.length = 3 from rfl]; omega, List.take_of_length_le (l := k.cells) (by rw [show k.cells.length = 3 from rfl]; omega)]
set_option maxRecDepth 100000 in
theorem kv_cells {ks : List Kv} {j : Nat} {k : Kv} (h : ks[j]? = some k) : (kvCells ks)[j * 3]? = some (.string k.x.1) ∧ (kvCells ks)[j * 3 + 1]? = some (.int .i64 k.x.2) ∧ (kvCells ks)[j * 3 + 2]? = some (.slice k.a (lenF k.l) k.c) := by
  have e := kvCells_drop ks j
  obtain ⟨hlt, hk⟩ := List.getElem?_eq_some_iff.1 h
  rw [List.drop_eq_getElem_cons hlt, hk] at e
  have e2 : ∀ i, i < 3 → (kvCells ks)[j * 3 + i]? = (k.cells)[i]? := fun i hi => by
    rw [← List.getElem?_drop, ← e]
    show (k.cells ++ kvCells _)[i]? = _
    rw [List.getElem?_append_left (by simp [Kv.cells]; exact hi)]
  exact ⟨e2 0 (by omega), e2 1 (by omega), e2 2 (by omega)⟩
set_option maxRecDepth 100000 in
/-- The cells of one of them. -/
theorem RowAt.get {w : World} {a : Option Addr} {n : Nat} {ks : List Kv} (h : RowAt w a n ks) {j : Nat} {k : Kv} (hk : ks[j]? = some k) : ∃ b off, a = some ⟨b, off, none⟩ ∧ w.cell? ⟨b, off + j * 3, none⟩ = some (.string k.x.1) ∧ w.cell? ⟨b, off + j * 3 + 1, none⟩ = some (.int .i64 k.x.2) ∧ w.cell? ⟨b, off + j * 3 + 2, none⟩ = some (.slice k.a (lenF k.l) k.c) := by
  obtain ⟨h0, h1, h2⟩ := kv_cells hk
  obtain ⟨b, off, rfl, c0⟩ := h.cells _ _ h0
  obtain ⟨_, _, e1, c1⟩ := h.cells _ _ h1
  obtain ⟨_, _, e2, c2⟩ := h.cells _ _ h2
  cases e1
  cases e2
  exact ⟨b, off, rfl, c0, by rw [← Nat.add_assoc] at c1; exact c1, by rw [← Nat.add_assoc] at c2; exact c2⟩
set_option maxRecDepth 100000 in
theorem row_of_owns {w : World} {base n : Nat} {v : Value} {ks : List Kv} (h : w.ownsRow base 28 3 v n (kvCells ks)) : ∃ a cap, v = .slice a n cap ∧ n ≤ cap ∧ cap ≤ maxLen ∧ RowAt w a n ks ∧ (a = none → n = 0 ∧ cap = 0) ∧ (∀ b off sp, a = some ⟨b, off, sp⟩ → base ≤ b ∧ off = 0 ∧ sp = none) := by
  have hl : ks.length = n := by have := h.1; rw [kvCells_len] at this; omega
  rcases h.2 with ⟨rfl, h0⟩ | ⟨g, cap, cur, rfl, hb, hg, hnc, hcm, hsz, hcur⟩
  · obtain rfl : ks = [] := List.length_eq_zero_iff.1 (hl.trans h0)
    exact ⟨none, 0, by rw [h0], by omega, by simp, ⟨by omega, fun j u hu => by simp [kvCells] at hu⟩, fun _ => ⟨h0, rfl⟩, fun b off sp e => by cases e⟩
  · exact ⟨_, cap, rfl, hnc, hcm, ⟨hl.symm, fun j u hu => ⟨g, 0, rfl, owns_at h j u hu⟩⟩, (fun e => by cases e), (fun b off sp e => by cases e; exact ⟨hb, rfl, rfl⟩)⟩
set_option maxRecDepth 100000 in
theorem RowAt.empty (w : World) (a : Option Addr) : RowAt w a 0 [] := ⟨rfl, fun j u hu => by simp [kvCells] at hu⟩
set_option maxRecDepth 100000 in
theorem row_empty26 (w : World) : (w.alloc (.cells #[] 28)).ownsRow w.heap.size 28 3 (.slice (some ⟨w.heap.size, 0, none⟩) 0 0) 0 (kvCells []) :=
  ⟨rfl, .inr ⟨w.heap.size, 0, #[], rfl, Nat.le_refl _, World.alloc_heap_new w _, Nat.le_refl _, Nat.zero_le _, rfl, rfl⟩⟩
set_option maxRecDepth 100000 in
theorem RowAt.new (w : World) (k : Kv) : RowAt (w.alloc (.cells #[.string k.x.1, .int .i64 k.x.2, .slice k.a (lenF k.l) k.c] 28)) (some ⟨w.heap.size, 0, none⟩) 1 [k] :=
  ⟨rfl, fun j u hu => by
    refine ⟨w.heap.size, 0, rfl, ?_⟩
    have h := World.news_of_block (heap_alloc_new w (.cells #[.string k.x.1, .int .i64 k.x.2, .slice k.a (lenF k.l) k.c] 28)) j u (by simpa [kvCells, Kv.cells] using hu)
    rw [← h]
    congr 1
    unfold Addr.add
    split <;> simp_all⟩
structure Lst (B : Nat) (W : World) (v : Value) (ks : List Kv) : Prop where
  row : W.ownsRow B 28 3 v ks.length (kvCells ks)
  own : ∀ k ∈ ks, OwnTm false (fun q => B ≤ q ∧ some q ≠ v.ownBlock) W k.x k.a k.c k.l
set_option maxRecDepth 100000 in
theorem Lst.nil (B : Nat) (W : World) : Lst B W (.slice none 0 0) [] := ⟨World.ownsRow_nil _ _ _ _, by simp⟩
set_option maxRecDepth 100000 in
theorem Lst.below {B : Nat} {W W' : World} {v : Value} {ks : List Kv} (h : Lst B W v ks) (hb : Below W.heap.size W W') : Lst B W' v ks := ⟨owns_below h.row hb, fun k hk => (h.own k hk).below hb⟩
set_option maxRecDepth 100000 in
theorem Lst.base {B B' : Nat} {W : World} {v : Value} {ks : List Kv} (h : Lst B W v ks) (hB : B' ≤ B) : Lst B' W v ks := ⟨owns_base h.row hB, fun k hk => (h.own k hk).mono (fun q _ hq => ⟨by omega, hq.2⟩)⟩
set_option maxRecDepth 100000 in
theorem Lst.lt {B : Nat} {W : World} {v : Value} {ks : List Kv} {g : Nat} (h : Lst B W v ks) (hg : v.ownBlock = some g) : g < W.heap.size := by
  obtain ⟨cur, hc⟩ := (owns_cells h.row hg).2
  exact (Array.getElem?_eq_some_iff.1 hc).1
set_option maxRecDepth 100000 in
theorem Lst.grow {B : Nat} {W W1 W2 : World} {v v' : Value} {ks ms : List Kv} (h : Lst B W v ks) (hW : Below W.heap.size W W1) (hm : ∀ k ∈ ms, OwnTm false (fun q => W.heap.size ≤ q) W1 k.x k.a k.c k.l) (hB : B ≤ W.heap.size)
    (hg : W1.grownBy W2 v.ownBlock) (hat : v'.ownBlock = v.ownBlock ∨ v'.ownBlock = some W1.heap.size) (ho : W2.ownsRow B 28 3 v' (ks ++ ms).length (kvCells (ks ++ ms))) : Lst B W2 v' (ks ++ ms) := by
  refine ⟨ho, fun k hk => ?_⟩
  have h2 : OwnTm false (fun q => (B ≤ q ∧ some q ≠ v'.ownBlock) ∧ some q ≠ v.ownBlock) W1 k.x k.a k.c k.l := by
    rcases List.mem_append.1 hk with hk | hk
    · have h0 : OwnTm false (fun q => (B ≤ q ∧ some q ≠ v'.ownBlock) ∧ some q ≠ v.ownBlock) W k.x k.a k.c k.l := (h.own k hk).mono (fun q hq hp => ⟨⟨hp.1, by
        rcases hat with e | e
        · rw [e]; exact hp.2
        · rw [e]; intro e'; cases e'; have := hW.size; omega⟩, hp.2⟩)
      exact h0.below hW
    · refine (hm k hk).mono (fun q hq hp => ?_)
      have hne : some q ≠ v.ownBlock := fun e => by have := h.lt e.symm; omega
      refine ⟨⟨by omega, ?_⟩, hne⟩
      rcases hat with e | e
      · rw [e]; exact hne
      · rw [e]; intro e'; cases e'; omega
  exact (h2.keep (fun q hq hlt => hg.block q hlt hq.2)).mono (fun q _ hq => hq.1)
set_option maxRecDepth 100000 in
/-- append of what another slice holds: nil, or some. -/
theorem wpList_append_lst {ops : Array Oper} {rest : List Oper} {o : Oper} {a : Act} {Q : Exit → Act → World → Prop} {W : World} (hgd : o.guard = none) (s x : Operand)
    (ho : o.op = .call { callee := .builtin .append, args := #[s, x], argTypes := #[26, 26] }) (base : Nat) (v : Value) (ks : List Kv) (hs : a.eval s = v) (hown : W.ownsRow base 28 3 v ks.length (kvCells ks))
    (sa : Option Addr) (m c : Nat) (ms : List Kv) (hx : a.eval x = .slice sa m c) (hm : RowAt W sa m ms) (hnil : sa = none → c = 0) (hsome : sa ≠ none → 0 < m) (hbig : ks.length + m ≤ 2932031007400) (hbase : base ≤ W.heap.size)
    (h : ∀ v' w', w'.ownsRow base 28 3 v' (ks ++ ms).length (kvCells (ks ++ ms)) → W.grownBy w' v.ownBlock → (v'.ownBlock = v.ownBlock ∨ v'.ownBlock = some W.heap.size) → wpList Try.prog ops Q rest (a.put o.dst v') w') : wpList Try.prog ops Q (o :: rest) a W := by
  obtain ⟨i0, hi, hz0, hz1, hz2⟩ := info_parts Try.info28
  have hmax : maxLen = 9223372036854775807 := rfl
  rcases sa with _ | ⟨b, off, sp⟩
  · obtain rfl : ms = [] := by
      cases ms with
      | nil => rfl
      | cons k r =>
        obtain ⟨_, _, e, _⟩ := hm.get (j := 0) (k := k) rfl
        cases e
    obtain rfl := hm.len
    obtain rfl := hnil rfl
    refine wpList_append_own_none hgd s x 26 ho base 28 i0 3 Try.underlying26 hi v ks.length (kvCells ks) hs hown hx (h v W (by simpa using hown) ?_ (.inl rfl))
    exact ⟨rfl, rfl, rfl, Nat.le_refl _, fun _ _ _ => rfl⟩
  · have hlm := hm.len
    refine wpList_append_lies _ hgd s x 26 ho base 28 i0 _ 3 48 Try.underlying26 hi hz0 hz1 hz2 rfl (by decide) v ks.length (kvCells ks) hs hown ⟨b, off, sp⟩ m c (kvCells ms) hx (by rw [kvCells_len, hlm]) (fun j u hu => ?_) (kvCells_one ms) (hsome (by simp)) (by omega) (by omega) hbase _ rfl ?_
    · obtain ⟨b', off', e, hc⟩ := hm.cells j u hu
      cases e
      rw [← hc]
      congr 1
      unfold Addr.add
      split <;> simp_all
    · intro g cap w' h1 h2 h3 _
      refine h _ w' ?_ h2 ?_
      · rw [kvCells_append, List.length_append, ← hlm]
        exact h1
      · rcases h3 with h3 | h3
        · exact .inl h3.symm
        · exact .inr (by rw [h3]; rfl)
end Go.Proofs.Ytkcbhbkldcebiaa
