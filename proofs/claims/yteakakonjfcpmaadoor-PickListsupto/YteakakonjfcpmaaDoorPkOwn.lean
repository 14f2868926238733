/- A row of single cells that a call lets grow, its spare room told. -/
import Derived.Test.YteakakonjfcpmaaDoorPkCl
namespace Go.Proofs.YteakakonjfcpmaaDoor
open Go.RowKit Go.Shelf

/-- A row that a call has made: its cells, and zeros behind them. -/
def OwnZ (w : World) (base e : Nat) (z v : Value) (xs : List Value) : Prop :=
  (v = .slice none 0 0 ∧ xs = []) ∨ ∃ g cap, v = .slice (some ⟨g, 0, none⟩) xs.length cap ∧ base ≤ g ∧ xs.length ≤ cap ∧ cap ≤ maxLen ∧ w.heap[g]? = some (.cells (xs ++ List.replicate (cap - xs.length) z).toArray e (0, 0))
theorem OwnZ.nil (w : World) (base e : Nat) (z : Value) : OwnZ w base e z (.slice none 0 0) [] := .inl ⟨rfl, rfl⟩
theorem OwnZ.form {w : World} {base e : Nat} {z v : Value} {xs : List Value} (h : OwnZ w base e z v xs) : ∃ p c, v = .slice p xs.length c := by
  rcases h with ⟨h1, rfl⟩ | ⟨g, cap, h1, _⟩
  · exact ⟨none, 0, h1⟩
  · exact ⟨_, _, h1⟩
theorem OwnZ.same {w w' : World} {base e : Nat} {z v : Value} {xs : List Value} (h : OwnZ w base e z v xs) (hs : ∀ k, v.ownBlock = some k → w'.heap[k]? = w.heap[k]?) : OwnZ w' base e z v xs := by
  rcases h with h | ⟨g, cap, rfl, h2, h3, h4, h5⟩
  · exact .inl h
  · exact .inr ⟨g, cap, rfl, h2, h3, h4, (hs g rfl).trans h5⟩
theorem OwnZ.lt {w : World} {base e : Nat} {z v : Value} {xs : List Value} (h : OwnZ w base e z v xs) {k : Nat} (hk : v.ownBlock = some k) : base ≤ k ∧ k < w.heap.size := by
  rcases h with ⟨rfl, _⟩ | ⟨g, cap, rfl, h2, h3, h4, h5⟩
  · cases hk
  · cases hk
    exact ⟨h2, (Array.getElem?_eq_some_iff.1 h5).1⟩
theorem OwnZ.below {w w' : World} {base e : Nat} {z v : Value} {xs : List Value} (h : OwnZ w base e z v xs) (hb : Below w.heap.size w w') : OwnZ w' base e z v xs := h.same (fun _ hk => hb.block _ (h.lt hk).2)
theorem OwnZ.mono {w : World} {base base' e : Nat} {z v : Value} {xs : List Value} (h : OwnZ w base e z v xs) (hb : base' ≤ base) : OwnZ w base' e z v xs := by
  rcases h with h0 | ⟨g, cap, h1, h2, h3⟩
  · exact .inl h0
  · exact .inr ⟨g, cap, h1, Nat.le_trans hb h2, h3⟩
theorem OwnZ.cell {w : World} {base e : Nat} {z : Value} {xs : List Value} {a : Option Addr} {n c : Nat} (h : OwnZ w base e z (.slice a n c) xs) {i : Nat} (hi : i < xs.length) : ∃ g, a = some ⟨g, 0, none⟩ ∧ base ≤ g ∧ w.cell? ⟨g, 0 + i, none⟩ = some xs[i] := by
  rcases h with ⟨_, rfl⟩ | ⟨g, cap, h1, h2, h3, h4, h5⟩
  · exact absurd hi (Nat.not_lt_zero i)
  · injection h1 with h1 _ _
    refine ⟨g, h1, h2, ?_⟩
    rw [cell_of_row w g _ _ e (0, 0) h5, Nat.zero_add]
    simp [List.getElem?_append_left hi]
theorem zero_cells (z : Value) (hz : z.cells = #[z]) (n : Nat) : (Builtin.zeroCells z.cells n).toList = List.replicate n z := by
  rw [hz]
  refine List.ext_getElem (by simp [Builtin.zeroCells]) (fun i h1 h2 => ?_)
  simp [Builtin.zeroCells, Nat.mod_one]
theorem cell_new (w : World) (x : Value) (e : Nat) : ∀ j u, [x][j]? = some u → (w.alloc (.cells #[x] e)).cell? ((⟨w.heap.size, 0, none⟩ : Addr).add j) = some u := fun j u hj => by
  match j, hj with
  | 0, hj =>
    simp at hj
    subst hj
    rw [Addr.add_lit]
    exact cell_box (World.alloc_heap_new w (.cells #[x] e)) rfl
/-- One more cell. -/
theorem app_one {P : Program} (t ty e : TypeId) (i : TypeInfo) (z : Value) (bytes : Nat) (ht : P.underlying t = some (.slice e)) (hi : P.info? e = some i) (hz : i.zero = some z) (hsize : i.size = 1) (hby : i.bytes = bytes) (hzc : z.cells = #[z])
    (base : Nat) (v : Value) (xs : List Value) (x : Value) (w : World) (hown : OwnZ w base e z v xs) (h1 : x.oneCell' = true) (hb : xs.length + 1 ≤ 2097153) (hbb : (xs.length + 1) * bytes ≤ 140737488355328) (hbase : base ≤ w.heap.size) :
    ∃ g cap w', (Builtin.append_ #[t, t] ty #[v, .slice (some ⟨w.heap.size, 0, none⟩) 1 1]).run P (w.alloc (.cells #[x] e)) = .ok (.slice (some ⟨g, 0, none⟩) (xs ++ [x]).length cap) w' ∧ OwnZ w' base e z (.slice (some ⟨g, 0, none⟩) (xs ++ [x]).length cap) (xs ++ [x]) ∧ Fr (fun q => v.ownBlock = some q) w w' := by
  have hn := cell_new w x e
  have b1 := alloc_below0 w (.cells #[x] e)
  have hlen : (xs ++ [x]).length = xs.length + 1 := by simp
  have hmax : maxLen = 9223372036854775807 := rfl
  have hone : ∀ u ∈ [x], u.oneCell' = true := fun u hu => by rw [List.mem_singleton.1 hu]; exact h1
  rw [hlen]
  generalize hW1 : w.alloc (.cells #[x] e) = W1 at hn b1
  have hs1 : W1.heap.size = w.heap.size + 1 := by rw [← hW1]; exact World.size_alloc _ _
  have fin : ∀ old : Nat, Fr (fun q => v.ownBlock = some q) w (W1.drew.alloc (.cells (xs.toArray ++ [x].toArray ++ Builtin.zeroCells z.cells (grownCap W1 (xs.length + 1) old e - (xs.length + 1))) e)) ∧ OwnZ (W1.drew.alloc (.cells (xs.toArray ++ [x].toArray ++ Builtin.zeroCells z.cells (grownCap W1 (xs.length + 1) old e - (xs.length + 1))) e)) base e z (.slice (some ⟨W1.heap.size, 0, none⟩) (xs.length + 1) (grownCap W1 (xs.length + 1) old e)) (xs ++ [x]) := fun old => by
    refine ⟨Fr.of_below (b1.trans ((Below.refl _ W1).drew.alloc (show w.heap.size ≤ W1.heap.size by omega) _)), .inr ⟨W1.heap.size, _, by rw [hlen], by omega, by rw [hlen]; exact grownCap_ge W1 (xs.length + 1) old e, grownCap_le_maxLen W1 (xs.length + 1) old e (by omega), ?_⟩⟩
    rw [show W1.heap.size = W1.drew.heap.size from rfl, World.alloc_heap_new W1.drew]
    congr 2
    refine Array.toList_inj.1 ?_
    rw [Array.toList_append, zero_cells z hzc, hlen]
    simp
  rcases hown with ⟨rfl, rfl⟩ | ⟨g, cap, rfl, h2, h3, h4, h5⟩
  · have hr := run_append_nil (P := P) W1 t ty e i z ht hi hz ⟨w.heap.size, 0, none⟩ 1 1 [x] (by rw [hsize]; rfl) hn (by omega) (by omega) (by rw [hby]; simp at hbb; omega)
    have h9 := fin 0
    simp only [List.length_nil, Nat.zero_add, List.nil_append, Array.empty_append] at h9 ⊢
    exact ⟨_, _, _, hr, h9.2, h9.1⟩
  · have hg : W1.heap[g]? = some (.cells (xs ++ List.replicate (cap - xs.length) z).toArray e (0, 0)) := (b1.block g (Array.getElem?_eq_some_iff.1 h5).1).trans h5
    by_cases hroom : xs.length + 1 ≤ cap
    · have hr := run_append_room (P := P) W1 t ty e i ht hi g xs.length cap _ hg ⟨w.heap.size, 0, none⟩ 1 1 [x] (by rw [hsize]; rfl) hn hone hroom (by rw [hsize]; simp; omega)
      refine ⟨g, cap, _, hr, .inr ⟨g, cap, by rw [hlen], h2, by omega, h4, ?_⟩, ⟨⟨b1.os, b1.tape, b1.output, by rw [show (W1.setRow g _).heap.size = W1.heap.size by simp [World.setRow]]; omega, fun k hk => absurd hk (Nat.not_lt_zero k)⟩, ?_⟩⟩
      · rw [setRow_heap W1 g _ _ e (0, 0) hg]
        congr 2
        rw [hsize, Nat.mul_one]
        obtain ⟨k, hk⟩ : ∃ k, cap - xs.length = k + 1 := ⟨cap - xs.length - 1, by omega⟩
        rw [hk, hlen, show cap - (xs.length + 1) = k by omega]
        simp
      · intro q hq hA
        rw [setRow_other W1 g q _ (fun e => hA (by rw [e]; rfl))]
        exact b1.block q hq
    · have holds : ∀ j u, xs[j]? = some u → W1.cell? ((⟨g, 0, none⟩ : Addr).add j) = some u := fun j u hj => by
        obtain ⟨hjl, hju⟩ := List.getElem?_eq_some_iff.1 hj
        rw [Addr.add_lit, cell_of_row W1 g _ _ e (0, 0) hg]
        simp only [Nat.zero_add, List.getElem?_toArray, List.getElem?_append_left hjl]
        exact hj
      have hr := run_append_grow (P := P) W1 t ty e i z ht hi hz ⟨g, 0, none⟩ xs.length cap xs (by rw [hsize, Nat.mul_one]) holds ⟨w.heap.size, 0, none⟩ 1 1 [x] (by rw [hsize]; rfl) hn (by omega) (by omega) (growslice_fits (by omega) (by rw [hby]; exact hbb))
      exact ⟨_, _, _, hr, (fin cap).2, (fin cap).1⟩
end Go.Proofs.YteakakonjfcpmaaDoor
