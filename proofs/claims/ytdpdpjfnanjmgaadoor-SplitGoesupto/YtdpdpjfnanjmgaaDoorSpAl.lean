/- A way's rows, number by number; where two ways differ; a way that a round keeps. -/
import Derived.Test.YtdpdpjfnanjmgaaDoorSpAk
import Derived.Test.YtdpdpjfnanjmgaaDoorSpAb
namespace Go.Proofs.YtdpdpjfnanjmgaaDoor
open Go.RowKit Go.Shelf

theorem lt_at : ∀ {u v : List Nat}, u < v → u.length = v.length → ∃ p, p < u.length ∧ (∀ q < p, u.getD q 0 = v.getD q 0) ∧ u.getD p 0 < v.getD p 0
  | [], [], h, _ => absurd h (lt_irr _)
  | [], _ :: _, _, h => by simp at h
  | _ :: _, [], _, h => by simp at h
  | a :: u, b :: v, h, hl => by
    rcases List.cons_lt_cons_iff.1 h with h1 | ⟨rfl, h1⟩
    · exact ⟨0, by simp, fun q hq => absurd hq (Nat.not_lt_zero q), by simpa using h1⟩
    · obtain ⟨p, g1, g2, g3⟩ := lt_at h1 (by simpa using hl)
      refine ⟨p + 1, by simpa using g1, fun q hq => ?_, by simpa using g3⟩
      cases q with
      | zero => rfl
      | succ q => simpa using g2 q (by omega)
theorem tab_rows {K T : Nat} {v : List Nat} (hv : v.length = K * T) {i j : Nat} (hi : i < T) (hj : j < K) : tab2 ((rowsN K T v).map up) i j = ((v.getD (i * K + j) 0 : Nat) : Int) := by
  have hl : i < (rowsN K T v).length := by rw [rowsN_len]; exact hi
  have h1 := rowsN_at T v hv i hi
  rw [List.getD_eq_getElem?_getD, List.getElem?_eq_getElem hl] at h1
  have h2 : (rowsN K T v)[i] = (List.range K).map fun j => v.getD (i * K + j) 0 := h1
  unfold tab2
  have e : ((rowsN K T v).map up).getD i [] = up ((List.range K).map fun j => v.getD (i * K + j) 0) := by
    rw [List.getD_eq_getElem?_getD, List.getElem?_map, List.getElem?_eq_getElem hl, h2]; rfl
  rw [e]
  have hj' : j < ((List.range K).map fun j => v.getD (i * K + j) 0).length := by simpa using hj
  rw [List.getD_eq_getElem?_getD, List.getElem?_eq_getElem (by rw [up_len]; exact hj'), Option.getD_some, up_at hj', getD_range _ _ hj]
/-- The place from which two ways differ. -/
theorem rows_lt {K T : Nat} {u v : List Nat} (hu : u.length = K * T) (hv : v.length = K * T) (h : u < v) : ∃ i0 j0, i0 < T ∧ j0 < K ∧ (∀ i j, i < T → j < K → (i < i0 ∨ i = i0 ∧ j < j0) → tab2 ((rowsN K T u).map up) i j = tab2 ((rowsN K T v).map up) i j) ∧ tab2 ((rowsN K T u).map up) i0 j0 < tab2 ((rowsN K T v).map up) i0 j0 := by
  obtain ⟨p, h1, h2, h3⟩ := lt_at h (by rw [hu, hv])
  rw [hu] at h1
  have hK : 0 < K := by
    rcases Nat.eq_zero_or_pos K with h0 | h0
    · subst h0; omega
    · exact h0
  have e1 := Nat.div_add_mod p K
  have e2 : p / K < T := Nat.div_lt_of_lt_mul h1
  have e3 : p % K < K := Nat.mod_lt _ hK
  have e4 : p / K * K + p % K = p := by rw [Nat.mul_comm]; exact e1
  refine ⟨p / K, p % K, e2, e3, fun i j hi hj hij => ?_, ?_⟩
  · rw [tab_rows hu hi hj, tab_rows hv hi hj, h2]
    rcases hij with h4 | ⟨rfl, h4⟩
    · have : (i + 1) * K ≤ p / K * K := Nat.mul_le_mul_right _ h4
      rw [Nat.succ_mul] at this
      omega
    · omega
  · rw [tab_rows hu e2 e3, tab_rows hv e2 e3, e4]
    omega
theorem rows_len {K T : Nat} {v : List Nat} (hv : v.length = K * T) : ∀ r ∈ (rowsN K T v).map up, r.length = K := fun r hr => by
  obtain ⟨x, hx, rfl⟩ := List.mem_map.1 hr
  rw [up_len]; exact (rowsN_all T v hv).1 x hx
/-- What a way gives of a kind to the takers so far. -/
def sumTo (K j : Nat) (k v : List Nat) : Nat → Nat
  | 0 => 0
  | i + 1 => sumTo K j k v i + k.getD i 0 * v.getD (i * K + j) 0
theorem sumTo_rows {K j : Nat} (hj : j < K) {k : List Nat} : ∀ (T : Nat) (v : List Nat), v.length = K * T → T = k.length → ∀ i, i ≤ T → sumTo K j k v i = sumR j (k.take i) ((rowsN K T v).take i)
  | T, v, hv, hT, 0, _ => by simp [sumTo, sumR]
  | T, v, hv, hT, i + 1, hi => by
    have hl : i < (rowsN K T v).length := by rw [rowsN_len]; omega
    have h1 := rowsN_at T v hv i (by omega)
    rw [List.getD_eq_getElem?_getD, List.getElem?_eq_getElem hl] at h1
    have h2 : (rowsN K T v)[i] = (List.range K).map fun j => v.getD (i * K + j) 0 := h1
    rw [sumTo, sumTo_rows hj T v hv hT i (by omega), List.take_succ_eq_append_getElem (by omega : i < k.length), List.take_succ_eq_append_getElem hl, sumR_app _ _ _ _ (by rw [List.length_take, List.length_take, rowsN_len]; omega), h2]
    congr 1
    rw [sumR, getD_range _ _ hj, List.getD_eq_getElem?_getD, List.getElem?_eq_getElem (by omega : i < k.length)]
    simp [sumR]
/-- A way's rows. -/
theorem way_rows {m k : List Nat} {e : Bool} (hk : ∀ x ∈ k, 1 ≤ x) {v : List Nat} (hv : v ∈ waysF m k e) : rowsN m.length k.length v ∈ WW e k m := by
  rw [ways_rows hk]
  exact List.mem_map.2 ⟨v, hv, rfl⟩
/-- They add up. -/
theorem sumTo_all {m k : List Nat} {e : Bool} (hk : ∀ x ∈ k, 1 ≤ x) {v : List Nat} (hv : v ∈ waysF m k e) {j : Nat} (hj : j < m.length) : sumTo m.length j k v k.length = m.getD j 0 := by
  have h1 := way_rows hk hv
  obtain ⟨g1, g2, g3⟩ := (WW_mem k m hk _).1 h1
  rw [sumTo_rows hj k.length v (way_len hk hv) rfl k.length (Nat.le_refl _), List.take_length, ← g3 j hj]
  congr 1
  exact List.take_of_length_le (by omega)
theorem sumTo_le {K j : Nat} {k v : List Nat} : ∀ {i i' : Nat}, i ≤ i' → sumTo K j k v i ≤ sumTo K j k v i'
  | i, 0, h => by rw [show i = 0 by omega]; exact Nat.le_refl _
  | i, i' + 1, h => by
    by_cases e : i = i' + 1
    · rw [e]; exact Nat.le_refl _
    · rw [sumTo]
      exact Nat.le_trans (sumTo_le (i := i) (i' := i') (by omega)) (Nat.le_add_right _ _)
/-- What somebody gets of the kinds so far. -/
def hasTo (K i : Nat) (v : List Nat) : Nat → Nat
  | 0 => 0
  | j + 1 => hasTo K i v j + v.getD (i * K + j) 0
theorem hasTo_zero {K i : Nat} {v : List Nat} : ∀ {n : Nat}, hasTo K i v n = 0 → ∀ j < n, v.getD (i * K + j) 0 = 0
  | 0, _, _, h => absurd h (Nat.not_lt_zero _)
  | n + 1, h, j, hj => by
    rw [hasTo] at h
    by_cases e : j = n
    · subst e; omega
    · exact hasTo_zero (n := n) (by omega) j (by omega)
/-- Where none may be empty, nobody gets nothing. -/
theorem has_some {m k : List Nat} (hk : ∀ x ∈ k, 1 ≤ x) {v : List Nat} (hv : v ∈ waysF m k false) {i : Nat} (hi : i < k.length) : 0 < hasTo m.length i v m.length := by
  refine Nat.pos_of_ne_zero fun h0 => ?_
  have h1 := way_rows hk hv
  obtain ⟨g1, g2, g3⟩ := (WW_mem k m hk _).1 h1
  have hl : i < (rowsN m.length k.length v).length := by rw [rowsN_len]; exact hi
  have h2 := rowsN_at k.length v (way_len hk hv) i hi
  rw [List.getD_eq_getElem?_getD, List.getElem?_eq_getElem hl] at h2
  have h3 : (rowsN m.length k.length v)[i] = (List.range m.length).map fun j => v.getD (i * m.length + j) 0 := h2
  have h4 := (g2 _ (List.getElem_mem hl)).2
  rw [h3] at h4
  have h5 : ((List.range m.length).map fun j => v.getD (i * m.length + j) 0).all (· == 0) = true := by
    rw [List.all_eq_true]
    intro x hx
    obtain ⟨j, hj, rfl⟩ := List.mem_map.1 hx
    rw [List.mem_range] at hj
    simpa using hasTo_zero h0 j hj
  rw [h5] at h4
  simp at h4
theorem hasTo_le {K i : Nat} {v : List Nat} (h6 : ∀ p, v.getD p 0 ≤ 6) : ∀ n, hasTo K i v n ≤ 6 * n
  | 0 => Nat.zero_le _
  | n + 1 => by rw [hasTo]; have := hasTo_le (K := K) (i := i) h6 n; have := h6 (i * K + n); omega
/-- No number of a way is greater than what there is. -/
theorem way_six {m k : List Nat} {e : Bool} (hF : Fine m k) {v : List Nat} (hv : v ∈ waysF m k e) (p : Nat) : v.getD p 0 ≤ 6 := by
  have hk : ∀ x ∈ k, 1 ≤ x := fun x hx => (hF.often x hx).1
  have hl := way_len hk hv
  by_cases hp : p < v.length
  · rw [hl] at hp
    have hK : 0 < m.length := by
      rcases Nat.eq_zero_or_pos m.length with h0 | h0
      · rw [h0] at hp; omega
      · exact h0
    have e1 : p / m.length * m.length + p % m.length = p := by rw [Nat.mul_comm]; exact Nat.div_add_mod p m.length
    have e2 : p / m.length < k.length := Nat.div_lt_of_lt_mul hp
    have e3 := Nat.mod_lt p hK
    have h1 := sumTo_all hk hv e3
    have h2 := sumTo_le (K := m.length) (j := p % m.length) (k := k) (v := v) (i := p / m.length + 1) (i' := k.length) e2
    rw [sumTo, e1, h1] at h2
    have h3 : m.getD (p % m.length) 0 ≤ 6 := by
      rw [List.getD_eq_getElem?_getD, List.getElem?_eq_getElem e3]
      exact hF.small _ (List.getElem_mem _)
    have h4 : 1 ≤ k.getD (p / m.length) 0 := get_pos hk _ e2
    have h5 : v.getD p 0 ≤ k.getD (p / m.length) 0 * v.getD p 0 := Nat.le_mul_of_pos_left _ h4
    omega
  · rw [List.getD_eq_getElem?_getD, List.getElem?_eq_none (by omega)]; exact Nat.zero_le _
/-- A way that was told some time ago, and that the iterator leaves alone. -/
def LstW (lim K T g : Nat) (rows : List (List Nat)) (M : Nat → Prop) (W : World) : Prop := ∃ (Wl : World) (bs : Nat), lim ≤ bs ∧ WayAt Wl bs g K T rows ∧ Wl.heap.size ≤ W.heap.size ∧ (∀ b, bs ≤ b → b < Wl.heap.size → W.heap[b]? = Wl.heap[b]?) ∧ ∀ b, M b → b < bs ∨ Wl.heap.size ≤ b
theorem LstW.new {W : World} {lim bs K T g : Nat} {rows : List (List Nat)} {M : Nat → Prop} (h : WayAt W bs g K T rows) (hM : ∀ b, M b → b < bs) (hl : lim ≤ bs) : LstW lim K T g rows M W := ⟨W, bs, hl, h, Nat.le_refl _, fun _ _ _ => rfl, fun b hb => .inl (hM b hb)⟩
theorem LstW.go {lim K T g : Nat} {rows : List (List Nat)} {M M' : Nat → Prop} {W W' : World} (h : LstW lim K T g rows M W) (hf : Fr M W W') (hm : ∀ b, M' b → M b ∨ W.heap.size ≤ b) : LstW lim K T g rows M' W' := by
  obtain ⟨Wl, bs, h0, h1, h2, h3, h4⟩ := h
  refine ⟨Wl, bs, h0, h1, Nat.le_trans h2 hf.low.size, fun b hb hb' => (hf.same b (by omega) fun hh => by have := h4 b hh; omega).trans (h3 b hb hb'), fun b hb => ?_⟩
  rcases hm b hb with h5 | h5
  · exact h4 b h5
  · exact .inr (by omega)
theorem LstW.own {lim K T g : Nat} {rows : List (List Nat)} {own M : Nat → Prop} {W W' : World} (h : LstW lim K T g rows M W) (hf : Fr own W W') (ho : ∀ b, own b → b < lim) : LstW lim K T g rows M W' := by
  obtain ⟨Wl, bs, h0, h1, h2, h3, h4⟩ := h
  exact ⟨Wl, bs, h0, h1, Nat.le_trans h2 hf.low.size, fun b hb hb' => (hf.same b (by omega) fun hh => by have := ho b hh; omega).trans (h3 b hb hb'), h4⟩
theorem LstW.way {lim K T g : Nat} {rows : List (List Nat)} {M : Nat → Prop} {W : World} (h : LstW lim K T g rows M W) : ∃ bs, WayAt W bs g K T rows := by
  obtain ⟨Wl, bs, h0, h1, h2, h3, h4⟩ := h
  exact ⟨bs, h1.same h3⟩
/-- A way as a table of numbers. -/
theorem WayAt.rows {w : World} {base g K T : Nat} {rows : List (List Nat)} (h : WayAt w base g K T rows) (hT : rows.length = T) (hs : T ≤ 5) : RowsAt w (some ⟨g, 0, none⟩) (rows.map up) := by
  refine ⟨by rw [List.length_map]; unfold maxLen; omega, fun i hi => ?_⟩
  rw [List.length_map] at hi
  obtain ⟨p, c, h1, h2, h3⟩ := h.row hi
  refine ⟨g, 0, p, c, rfl, ?_, ?_⟩
  · rw [Nat.zero_add, h1, List.getElem_map, up_len, h3]
  · rw [List.getElem_map]; exact h2
end Go.Proofs.YtdpdpjfnanjmgaaDoor
