/- A row with room, appended to; what lent hands back. -/
import Derived.Deep.RegionHeld3
import Derived.Test.YteakakonjfcpmaaDoorPkSp
namespace Go.Proofs.YteakakonjfcpmaaDoor
open Go.RowKit Go.Shelf

/-- A row with room: its cells, and zeros behind them. -/
def RowG (W : World) (g cap e : Nat) (z : Value) (xs : List Value) : Prop := xs.length ≤ cap ∧ W.heap[g]? = some (.cells (xs ++ List.replicate (cap - xs.length) z).toArray e (0, 0))
theorem RowG.same {W W' : World} {g cap e : Nat} {z : Value} {xs : List Value} (h : RowG W g cap e z xs) (hs : W'.heap[g]? = W.heap[g]?) : RowG W' g cap e z xs := ⟨h.1, hs.trans h.2⟩
theorem RowG.lt {W : World} {g cap e : Nat} {z : Value} {xs : List Value} (h : RowG W g cap e z xs) : g < W.heap.size := (Array.getElem?_eq_some_iff.1 h.2).1
/-- An append for which there is room. -/
theorem run_room {P : Program} (t ty e : TypeId) (i : TypeInfo) (z : Value) (ht : P.underlying t = some (.slice e)) (hi : P.info? e = some i) (hsize : i.size = 1)
    (w : World) (g cap : Nat) (xs : List Value) (h : RowG w g cap e z xs) (px : Option Addr) (m cx : Nat) (news : List Value)
    (hsrc : (px = none ∧ m = 0 ∧ cx = 0 ∧ news = []) ∨ ∃ ad, px = some ad ∧ news.length = m ∧ ∀ j u, news[j]? = some u → w.cell? (ad.add j) = some u) (h1 : ∀ u ∈ news, u.oneCell' = true) (hroom : xs.length + m ≤ cap) :
    ∃ w', (Builtin.append_ #[t, t] ty #[.slice (some ⟨g, 0, none⟩) xs.length cap, .slice px m cx]).run P w = .ok (.slice (some ⟨g, 0, none⟩) (xs.length + m) cap) w' ∧ RowG w' g cap e z (xs ++ news) ∧ Fr (fun b => b = g) w w' ∧ w'.heap.size = w.heap.size := by
  rcases hsrc with ⟨rfl, rfl, rfl, rfl⟩ | ⟨ad, rfl, hl, hn⟩
  · refine ⟨w, ?_, by rw [List.append_nil]; exact h, Fr.refl _ _, rfl⟩
    simp [Builtin.append_, run_underlying ht, sizeOf, typeInfo, hi, Builtin.lenOf, Builtin.firstCells, h.1, storeCells]
  · have hr := run_append_room (P := P) w t ty e i ht hi g xs.length cap _ h.2 ad m cx news (by rw [hsize, Nat.mul_one]; exact hl) hn h1 hroom (by rw [hsize]; simp; omega)
    refine ⟨_, hr, ⟨by rw [List.length_append]; omega, ?_⟩, ⟨⟨rfl, rfl, rfl, by simp [World.setRow], fun k hk => absurd hk (Nat.not_lt_zero k)⟩, fun b _ hb => setRow_other w g b _ hb⟩, by simp [World.setRow]⟩
    rw [setRow_heap w g _ _ e (0, 0) h.2]
    congr 2
    rw [hsize, Nat.mul_one]
    have hlen : xs.length + news.length ≤ cap := by omega
    obtain ⟨k, hk⟩ : ∃ k, cap - xs.length = news.length + k := ⟨cap - xs.length - news.length, by omega⟩
    rw [hk, List.length_append, show cap - (xs.length + news.length) = k by omega]
    rw [← List.replicate_append_replicate]
    simp [List.drop_append]
/-- At a step of a statement that draws its order. -/
theorem step_append_run {P : Program} {ops : Array Oper} {o : Oper} {a : Act} {w : World} {K : Act → World → Prop} {Q : Exit → Act → World → Prop} {E : Prop} (hgd : o.guard = none) (s x : Operand) (t : TypeId)
    (ho : o.op = .call { callee := .builtin .append, args := #[s, x], argTypes := #[t, t] }) (vs vx : Value) (hs : a.eval s = vs) (hx : a.eval x = vx)
    (v' : Value) (w' : World) (hr : (Builtin.append_ #[t, t] o.type #[vs, vx]).run P w = .ok v' w') (h : K (a.put o.dst v') w') :
    if Region.wanted o (yielded ops a.tmps) = true then Oper.wp P o a w K Q else E := by
  have hw : Region.wanted o (yielded ops a.tmps) = true := by simp [Region.wanted, hgd]
  rw [if_pos hw]
  exact Lib.wp_append_run w s x t t ho vs vx hs hx v' w' hr h
/-- Rows lent: each in memory of its own, a mark behind each, a mark behind all. -/
structure LentAt (W : World) (base : Nat) (g : Nat) (rs : List (List Int)) : Prop where
  small : rs.length ≤ 1048576
  rowS : ∀ r ∈ rs, r.length ≤ 1048576
  base_ : base ≤ g
  out : ∃ (vs : List Value) (gm : Nat), vs.length = rs.length ∧ W.heap[g]? = some (.cells (vs ++ [Value.slice (some ⟨gm, 0, none⟩) 1 1]).toArray 29 (0, 0)) ∧ base ≤ gm ∧ W.heap[gm]? = some (.cells #[.int .i64 77] 3 (0, 0)) ∧
    ∀ i (h : i < rs.length), ∃ gi, vs[i]? = some (.slice (some ⟨gi, 0, none⟩) rs[i].length (rs[i].length + 1)) ∧ base ≤ gi ∧ W.heap[gi]? = some (.cells (cAll rs[i] ++ [Value.int .i64 77]).toArray 3 (0, 0))
theorem LentAt.same {W W' : World} {base g : Nat} {rs : List (List Int)} (h : LentAt W base g rs) (hs : ∀ b, base ≤ b → b < W.heap.size → W'.heap[b]? = W.heap[b]?) : LentAt W' base g rs := by
  obtain ⟨vs, gm, h1, h2, h3, h4, h5⟩ := h.out
  have keep : ∀ {b : Nat} {o : Obj}, W.heap[b]? = some o → base ≤ b → W'.heap[b]? = some o := fun hb hle => (hs _ hle (Array.getElem?_eq_some_iff.1 hb).1).trans hb
  exact ⟨h.small, h.rowS, h.base_, vs, gm, h1, keep h2 h.base_, h3, keep h4 h3, fun i hi => let ⟨gi, k1, k2, k3⟩ := h5 i hi; ⟨gi, k1, k2, keep k3 k2⟩⟩
theorem LentAt.below {W W' : World} {base g : Nat} {rs : List (List Int)} (h : LentAt W base g rs) (hb : Below W.heap.size W W') : LentAt W' base g rs := h.same (fun b _ hlt => hb.block b hlt)
theorem LentAt.rows {W : World} {base g : Nat} {rs : List (List Int)} (h : LentAt W base g rs) : RowsAt W (some ⟨g, 0, none⟩) rs := by
  obtain ⟨vs, gm, h1, h2, h3, h4, h5⟩ := h.out
  refine ⟨Nat.le_trans h.small (by unfold maxLen; omega), fun i hi => ?_⟩
  obtain ⟨gi, k1, k2, k3⟩ := h5 i hi
  refine ⟨g, 0, some ⟨gi, 0, none⟩, rs[i].length + 1, rfl, cell_box h2 ?_, Nat.le_trans (h.rowS _ (List.getElem_mem hi)) (by unfold maxLen; omega), fun k hk => ⟨gi, 0, rfl, cell_box k3 ?_⟩⟩
  · rw [Nat.zero_add, List.getElem?_toArray, List.getElem?_append_left (by omega)]
    exact k1
  · rw [Nat.zero_add, List.getElem?_toArray, List.getElem?_append_left (by rw [cAll_len]; exact hk)]
    unfold cAll
    rw [List.getElem?_map, List.getElem?_eq_getElem hk]
    rfl
theorem LentAt.nn {W : World} {base g : Nat} {rs : List (List Int)} (h : LentAt W base g rs) (i : Nat) (hi : i < rs.length) : ∃ b o q c, some (⟨g, 0, none⟩ : Addr) = some ⟨b, o, none⟩ ∧ W.cell? ⟨b, o + i, none⟩ = some (.slice q rs[i].length c) ∧ IntsAt W q rs[i] ∧ (q = none → c = 0) := by
  obtain ⟨b, o, q, c, e1, e2, e3⟩ := h.rows.cells i hi
  refine ⟨b, o, q, c, e1, e2, e3, fun hq => ?_⟩
  subst hq
  obtain ⟨vs, gm, h1, h2, h3, h4, h5⟩ := h.out
  obtain ⟨gi, k1, _⟩ := h5 i hi
  have e4 : W.cell? ⟨g, 0 + i, none⟩ = some (.slice (some ⟨gi, 0, none⟩) rs[i].length (rs[i].length + 1)) := cell_box h2 (by rw [Nat.zero_add, List.getElem?_toArray, List.getElem?_append_left (by omega)]; exact k1)
  cases e1
  rw [e4] at e2
  cases e2
theorem LentAt.spoil {W : World} {base g : Nat} {rs : List (List Int)} (h : LentAt W base g rs) : SpAt W base (.slice (some ⟨g, 0, none⟩) rs.length (rs.length + 1)) := by
  obtain ⟨vs, gm, h1, h2, h3, h4, h5⟩ := h.out
  have hmax : maxLen = 9223372036854775807 := rfl
  have hsm := h.small
  refine .inr ⟨g, rs.length, vs ++ [Value.slice (some ⟨gm, 0, none⟩) 1 1], by rw [List.length_append, h1]; rfl, by simp; omega, by simp; omega, h2, fun i hi => ?_⟩
  by_cases hlt : i < vs.length
  · obtain ⟨gi, k1, k2, k3⟩ := h5 i (by omega)
    rw [List.getElem?_eq_getElem hlt] at k1
    have hrs := h.rowS _ (List.getElem_mem (show i < rs.length by omega))
    rw [List.getElem_append_left hlt, Option.some.inj k1]
    exact ⟨_, _, _, rfl, by omega, by omega, .inr ⟨gi, _, rfl, k2, k3, by simp [cAll_len]⟩⟩
  · have e1 : i = vs.length := by simp at hi; omega
    subst e1
    rw [List.getElem_append_right (by omega)]
    simp only [Nat.sub_self, List.getElem_singleton]
    exact ⟨_, _, _, rfl, Nat.le_refl _, by omega, .inr ⟨gm, _, rfl, h3, h4, rfl⟩⟩
end Go.Proofs.YteakakonjfcpmaaDoor
