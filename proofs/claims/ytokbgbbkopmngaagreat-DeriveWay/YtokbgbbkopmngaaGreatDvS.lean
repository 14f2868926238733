/- Rows of terms that are written within: Replace. -/
import Derived.Test.YtokbgbbkopmngaaGreatDvM
import Derived.ArgAppend
namespace Go.Proofs.YtokbgbbkopmngaaGreat
open Go.RowKit Go.Deep

theorem ovr_lo {cur vs : List Value} {o k : Nat} (h : k ≤ o) (ho : o ≤ cur.length) : (ovr cur o vs).take k = cur.take k := by
  unfold ovr
  rw [List.append_assoc, List.take_append_of_le_length (by rw [List.length_take]; omega), List.take_take, Nat.min_eq_left h]
theorem ovr_end {cur vs : List Value} {o : Nat} (ho : o ≤ cur.length) : (ovr cur o vs).take (o + vs.length) = cur.take o ++ vs := by
  unfold ovr
  have e : (cur.take o ++ vs).length = o + vs.length := by rw [List.length_append, List.length_take]; omega
  rw [List.take_append_of_le_length (by omega), ← e, List.take_length]
theorem ovr_hi {cur vs : List Value} {o k : Nat} (h : o + vs.length ≤ k) (ho : o ≤ cur.length) : (ovr cur o vs).drop k = cur.drop k := by
  unfold ovr
  have e : (cur.take o ++ vs).length = o + vs.length := by rw [List.length_append, List.length_take]; omega
  rw [List.drop_append, List.drop_eq_nil_of_le (by omega), List.nil_append, List.drop_drop, e]
  congr 1
  omega
/-- What is put in: nothing, or a row of another block. -/
def SrcV (w : World) (g : Nat) (va : Option Addr) (vc : Nat) (vs : List Kv) : Prop := (va = none ∧ vs = []) ∨ ∃ vb, va = some ⟨vb, 0, none⟩ ∧ vb ≠ g ∧ RowV w vb vc vs
theorem SrcV.first {w : World} {g : Nat} {va : Option Addr} {vc : Nat} {vs : List Kv} (h : SrcV w g va vc vs) : (Builtin.firstCells 3 vs.length (.slice va vs.length vc)).run Tryz.prog w = .ok (kvCells vs).toArray w := by
  rcases h with ⟨rfl, rfl⟩ | ⟨vb, rfl, _, hR⟩
  · exact run_firstCells_none w 3 0 0 vc
  · exact run_firstCells_some w 3 vs.length ⟨vb, 0, none⟩ vs.length vc (kvCells vs) (kvCells_len vs) (fun j v hj => by rw [Addr.add_lit, Nat.zero_add]; exact hR.cells hj)
theorem SrcV.keep {w w' : World} {g : Nat} {va : Option Addr} {vc : Nat} {vs : List Kv} (h : SrcV w g va vc vs) (hp : ∀ q, q ≠ g → q < w.heap.size → w'.heap[q]? = w.heap[q]?) : SrcV w' g va vc vs := by
  rcases h with h | ⟨vb, ha, hne, hR⟩
  · exact .inl h
  · exact .inr ⟨vb, ha, hne, hR.keep (hp vb hne hR.lt)⟩
set_option maxRecDepth 100000 in
theorem run_appR (w : World) (ty : TypeId) (g cap i : Nat) (va : Option Addr) (vc : Nat) (vs : List Kv) (hV : SrcV w g va vc vs) (hroom : i + vs.length ≤ cap) (hc : ∀ j, j < vs.length * 3 → (w.cell? ⟨g, i * 3 + j, none⟩).isSome = true ∧ w.frozen? ⟨g, i * 3 + j, none⟩ = false) :
    (Builtin.append_ #[24, 24] ty #[.slice (some ⟨g, 0, none⟩) i cap, .slice va vs.length vc]).run Tryz.prog w = .ok (.slice (some ⟨g, 0, none⟩) (i + vs.length) cap) (w.setCells g (i * 3) (kvCells vs)) := by
  obtain ⟨i0, hi0, hz0, hz1, hz2⟩ := info_parts Tryz.info26
  have hl := kvCells_len vs
  have hfc := hV.first
  have hst := run_storeCells_cells (P := Tryz.prog) g (i * 3) (kvCells vs) 0 w (by intro j hj; rw [Nat.add_zero]; exact (hc j (by omega)).1) (by intro j hj; rw [Nat.add_zero]; exact (hc j (by omega)).2) (kvCells_one vs)
  simp only [Nat.add_zero] at hst
  simp [Builtin.append_, run_underlying Tryz.underlying24, sizeOf, typeInfo, hi0, hz1, Builtin.lenOf, hroom, hfc, Addr.add_lit, hst]
set_option maxRecDepth 100000 in
theorem run_copyV (w : World) (ty : TypeId) (g o dLen dCap : Nat) (va : Option Addr) (vc : Nat) (vs : List Kv) (hV : SrcV w g va vc vs) (hd : vs.length ≤ dLen) (hc : ∀ j, j < vs.length * 3 → (w.cell? ⟨g, o + j, none⟩).isSome = true ∧ w.frozen? ⟨g, o + j, none⟩ = false) :
    (Builtin.copy_ #[24, 24] ty #[.slice (some ⟨g, o, none⟩) dLen dCap, .slice va vs.length vc]).run Tryz.prog w = .ok (goInt vs.length) (w.setCells g o (kvCells vs)) := by
  obtain ⟨i0, hi0, hz0, hz1, hz2⟩ := info_parts Tryz.info26
  have hl := kvCells_len vs
  have hfc := hV.first
  have hm : Nat.min vs.length dLen = vs.length := Nat.min_eq_left hd
  have hst := run_storeCells_cells (P := Tryz.prog) g o (kvCells vs) 0 w (by intro j hj; rw [Nat.add_zero]; exact (hc j (by omega)).1) (by intro j hj; rw [Nat.add_zero]; exact (hc j (by omega)).2) (kvCells_one vs)
  simp only [Nat.add_zero] at hst
  simp [Builtin.copy_, run_underlying Tryz.underlying24, sizeOf, typeInfo, hi0, hz1, Builtin.lenOf, hm, hfc, hst]
/-- What clear writes. -/
def zerosT (n : Nat) : List Value := (Builtin.zeroCells (Value.agg #[.string ⟨#[]⟩, .int .i64 0, .slice none 0 0]).cells n).toList
theorem zeros_len (n : Nat) : (zerosT n).length = n * 3 := by
  unfold zerosT
  rw [Array.length_toList, size_zeroCells]
  rfl
theorem zeros_one (n : Nat) : ∀ u ∈ zerosT n, u.oneCell' = true := by
  intro u hu
  unfold zerosT Builtin.zeroCells at hu
  simp only [Array.toList_map, List.mem_map] at hu
  obtain ⟨k, _, rfl⟩ := hu
  have h3 : (Value.agg #[.string ⟨#[]⟩, .int .i64 0, .slice none 0 0]).cells = #[.string ⟨#[]⟩, .int .i64 0, .slice none 0 0] := by kernel_rfl
  rw [h3]
  have hk : k % 3 = 0 ∨ k % 3 = 1 ∨ k % 3 = 2 := by omega
  show (#[Value.string ⟨#[]⟩, .int .i64 0, .slice none 0 0][k % 3]!).oneCell' = true
  rcases hk with e | e | e <;> rw [e] <;> rfl
set_option maxRecDepth 100000 in
theorem run_clearN (w : World) (ty : TypeId) (g o n c : Nat) (hn : 0 < n) (hc : ∀ j, j < n * 3 → (w.cell? ⟨g, o + j, none⟩).isSome = true ∧ w.frozen? ⟨g, o + j, none⟩ = false) :
    (Builtin.clear_ #[24] ty #[.slice (some ⟨g, o, none⟩) n c]).run Tryz.prog w = .ok (.tuple #[]) (w.setCells g o (zerosT n)) := by
  have hl := zeros_len n
  have hst := run_storeCells_cells (P := Tryz.prog) g o (zerosT n) 0 w (by intro j hj; rw [Nat.add_zero]; exact (hc j (by omega)).1) (by intro j hj; rw [Nat.add_zero]; exact (hc j (by omega)).2) (zeros_one n)
  simp only [Nat.add_zero] at hst
  unfold zerosT at hst
  obtain ⟨m, rfl⟩ : ∃ m, n = m + 1 := ⟨n - 1, by omega⟩
  simp [Builtin.clear_, run_underlying Tryz.underlying24, zerosT, hst]
theorem run_clear0 (w : World) (ty : TypeId) (a : Option Addr) (c : Nat) : (Builtin.clear_ #[24] ty #[.slice a 0 c]).run Tryz.prog w = .ok (.tuple #[]) w := by
  cases a <;> simp [Builtin.clear_, run_underlying Tryz.underlying24]
/-- A row's cells, written over. -/
structure CurV (W : World) (g cap : Nat) (cur : List Value) : Prop where
  row : W.heap[g]? = some (.cells cur.toArray 26 (0, 0))
  len : cur.length = cap * 3
theorem CurV.any {W : World} {g cap : Nat} {cur : List Value} (h : CurV W g cap cur) {j : Nat} (hj : j < cap * 3) : (W.cell? ⟨g, j, none⟩).isSome = true ∧ W.frozen? ⟨g, j, none⟩ = false := by
  have hl := h.len
  refine ⟨?_, by simp [World.frozen?, h.row]⟩
  rw [cell_box h.row (by rw [List.getElem?_toArray]; exact List.getElem?_eq_getElem (by omega))]
  rfl
theorem CurV.set {W : World} {g cap o : Nat} {cur vs : List Value} (h : CurV W g cap cur) (hv : o + vs.length ≤ cap * 3) : CurV (W.setCells g o vs) g cap (ovr cur o vs) :=
  ⟨by have := setCells_row (g := g) vs o W cur.toArray h.row (by rw [List.size_toArray, h.len]; exact hv); exact this, by rw [ovr_len (by rw [h.len]; exact hv), h.len]⟩
theorem RowV.cur {W : World} {g cap : Nat} {ks : List Kv} (h : RowV W g cap ks) : ∃ cur, CurV W g cap cur ∧ cur.take (ks.length * 3) = kvCells ks := by
  obtain ⟨cur, h1, h2, h3⟩ := h.row
  exact ⟨cur.toList, ⟨h1, h2⟩, h3⟩
theorem CurV.rowV {W : World} {g cap : Nat} {cur : List Value} {ks : List Kv} (h : CurV W g cap cur) (hk : cur.take (ks.length * 3) = kvCells ks) (hf : ks.length ≤ cap) (hc : cap ≤ maxLen) : RowV W g cap ks :=
  ⟨⟨cur.toArray, h.row, by rw [List.size_toArray, h.len], by exact hk⟩, hf, hc⟩
def layK (ks : List Kv) (i j : Nat) (vs : List Kv) : List Kv := ks.take i ++ (vs ++ ks.drop j)
theorem layK_len {ks vs : List Kv} {i j : Nat} (hij : i ≤ j) (hj : j ≤ ks.length) : (layK ks i j vs).length = i + vs.length + (ks.length - j) := by
  simp only [layK, List.length_append, List.length_take, List.length_drop]
  omega
/-- What is left: a row, here or in new memory. -/
def RepEnd (w : World) (g : Nat) (ks : List Kv) (e : Ending) (w' : World) : Prop := ∃ g' c', e = .returned (.slice (some ⟨g', 0, none⟩) ks.length c') ∧ RowV w' g' c' ks ∧ Fr (fun q => q = g) w w' ∧ (g' = g ∨ w.heap.size ≤ g')
end Go.Proofs.YtokbgbbkopmngaaGreat
