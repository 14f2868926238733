/- Plain: minimal solutions, their sides exchanged; one coefficient a side; a minimal one below each. -/
import Derived.Test.YtbdkogccjnmfoaaLiO
namespace Go.Proofs.Ytbdkogccjnmfoaa
open Go.RowKit Go.Shelf

theorem IsMin.mem {a b : List Int} {L : List (List Nat)} (h0 : chkE a b = 0) (h : IsMin (pbOf a b) L) (v : List Nat) : v ∈ L ↔ ∃ x y, v = tolds (pbOf a b) x y ∧ Min (pbOf a b) x y := by
  rw [h.perm.mem_iff]
  exact (search_all (pb_ok h0) (by omega) (by omega)).2.1 v
theorem IsMin.nodup {a b : List Int} {L : List (List Nat)} (h0 : chkE a b = 0) (h : IsMin (pbOf a b) L) : L.Nodup := (h.perm.nodup_iff).2 (search_all (pb_ok h0) (by omega) (by omega)).1
theorem tolds_len (p : Pb) (x y : Nat → Nat) : (tolds p x y).length = p.n + p.q := by simp [tolds]
theorem IsMin.len {a b : List Int} {L : List (List Nat)} (h0 : chkE a b = 0) (h : IsMin (pbOf a b) L) {v : List Nat} (hv : v ∈ L) : v.length = a.length + b.length := by
  obtain ⟨x, y, rfl, _⟩ := (h.mem h0 v).1 hv
  exact tolds_len _ _ _
theorem chk_swap (a b : List Int) : chkE b a = chkE a b := by
  unfold chkE
  simp only [Or.comm]
theorem min_swap {a b : List Int} {x y : Nat → Nat} (h : Min (pbOf a b) x y) : Min (pbOf b a) y x where
  sx := h.sy
  sy := h.sx
  eq := h.eq.symm
  pos := by have := h.pos; have := h.eq; show 0 < S (pbOf a b).b y (pbOf a b).q; omega
  least := fun u v hu hv e => by
    have e' : S (pbOf a b).a v (pbOf a b).n = S (pbOf a b).b u (pbOf a b).q := e.symm
    have h1 := h.least v u hv hu e'
    have h2 := h.eq
    show S (pbOf a b).b u (pbOf a b).q = 0 ∨ S (pbOf a b).b u (pbOf a b).q = S (pbOf a b).b y (pbOf a b).q
    omega
/-- The second part ahead of the first. -/
def sw {α : Type} (q : Nat) (v : List α) : List α := v.drop q ++ v.take q
theorem sw_inj {α : Type} {q : Nat} {v u : List α} (hl : v.length = u.length) (h : sw q v = sw q u) : v = u := by
  unfold sw at h
  obtain ⟨h1, h2⟩ := List.append_inj h (by simp [hl])
  rw [← List.take_append_drop q v, ← List.take_append_drop q u, h1, h2]
theorem sw_tolds (a b : List Int) (x y : Nat → Nat) : sw b.length (tolds (pbOf b a) y x) = tolds (pbOf a b) x y := by
  unfold sw tolds
  have hl : ((List.range (pbOf b a).n).map y).length = b.length := by simp [pbOf]
  rw [List.drop_left' hl, List.take_left' hl]
  rfl
theorem swap_mem {a b : List Int} (h0 : chkE a b = 0) {L L' : List (List Nat)} (h : IsMin (pbOf a b) L) (h' : IsMin (pbOf b a) L') {v : List Nat} (hv : v ∈ L') : sw b.length v ∈ L := by
  have h0' : chkE b a = 0 := by rw [chk_swap]; exact h0
  obtain ⟨y, x, rfl, hm⟩ := (h'.mem h0' v).1 hv
  rw [sw_tolds]
  exact (h.mem h0 _).2 ⟨x, y, rfl, min_swap hm⟩
theorem swap_le {a b : List Int} (h0 : chkE a b = 0) {L L' : List (List Nat)} (h : IsMin (pbOf a b) L) (h' : IsMin (pbOf b a) L') : L'.length ≤ L.length := by
  have h0' : chkE b a = 0 := by rw [chk_swap]; exact h0
  have hn : (L'.map (sw b.length)).Nodup := by
    refine List.pairwise_map.2 (List.Pairwise.imp_of_mem ?_ (h'.nodup h0'))
    intro u v hu hv hne e
    exact hne (sw_inj (by rw [h'.len h0' hu, h'.len h0' hv]) e)
  have := hn.length_le_of_subset (l₂ := L) (fun u hu => by
    obtain ⟨v, hv, rfl⟩ := List.mem_map.1 hu
    exact swap_mem h0 h h' hv)
  rwa [List.length_map] at this
theorem swap_len {a b : List Int} (h0 : chkE a b = 0) {L L' : List (List Nat)} (h : IsMin (pbOf a b) L) (h' : IsMin (pbOf b a) L') : L.length = L'.length :=
  Nat.le_antisymm (swap_le (by rw [chk_swap]; exact h0) h' h) (swap_le h0 h h')
/-- Below each solution that is not 0 there is a minimal one. -/
theorem exists_min (p : Pb) : ∀ (m : Nat) (x y : Nat → Nat), S p.a x p.n = m → (∀ i, p.n ≤ i → x i = 0) → (∀ i, p.q ≤ i → y i = 0) → S p.a x p.n = S p.b y p.q → 0 < m → ∃ u v, Min p u v ∧ (∀ i, u i ≤ x i) ∧ ∀ i, v i ≤ y i := by
  intro m
  induction m using Nat.strongRecOn with
  | _ m ih =>
    intro x y hm sx sy eq pos
    by_cases h : ∀ u v : Nat → Nat, (∀ i, u i ≤ x i) → (∀ i, v i ≤ y i) → S p.a u p.n = S p.b v p.q → S p.a u p.n = 0 ∨ S p.a u p.n = S p.a x p.n
    · exact ⟨x, y, ⟨sx, sy, eq, by omega, h⟩, fun _ => Nat.le_refl _, fun _ => Nat.le_refl _⟩
    · have : ∃ u v : Nat → Nat, (∀ i, u i ≤ x i) ∧ (∀ i, v i ≤ y i) ∧ S p.a u p.n = S p.b v p.q ∧ S p.a u p.n ≠ 0 ∧ S p.a u p.n ≠ S p.a x p.n := by
        rcases Classical.em (∃ u v : Nat → Nat, (∀ i, u i ≤ x i) ∧ (∀ i, v i ≤ y i) ∧ S p.a u p.n = S p.b v p.q ∧ S p.a u p.n ≠ 0 ∧ S p.a u p.n ≠ S p.a x p.n) with h1 | h1
        · exact h1
        · exfalso
          apply h
          intro u v hu hv e
          rcases Classical.em (S p.a u p.n = 0) with h2 | h2
          · exact .inl h2
          · rcases Classical.em (S p.a u p.n = S p.a x p.n) with h3 | h3
            · exact .inr h3
            · exact absurd ⟨u, v, hu, hv, e, h2, h3⟩ h1
      obtain ⟨u, v, hu, hv, e, h2, h3⟩ := this
      have hle := S_le p.a hu p.n
      obtain ⟨u', v', hm', hu', hv'⟩ := ih (S p.a u p.n) (by omega) u v rfl (fun i hi => by have := hu i; have := sx i hi; omega) (fun i hi => by have := hv i; have := sy i hi; omega) e (by omega)
      exact ⟨u', v', hm', fun i => Nat.le_trans (hu' i) (hu i), fun i => Nat.le_trans (hv' i) (hv i)⟩
/-- One coefficient a side: just one minimal solution. -/
theorem one_min {a b : List Int} (h0 : chkE a b = 0) (ha : a.length = 1) (hb : b.length = 1) {L : List (List Nat)} (h : IsMin (pbOf a b) L) : ∃ x y : Nat, L = [[x, y]] ∧ (pbOf a b).a 0 * x = (pbOf a b).b 0 * y ∧ x ≤ 100 ∧ y ≤ 100 := by
  have ok := pb_ok h0
  have hn : (pbOf a b).n = 1 := ha
  have hq : (pbOf a b).q = 1 := hb
  have ha1 := ok.a1 0 (by omega)
  have hb1 := ok.b1 0 (by omega)
  have e1 : ∀ (c : Nat → Nat) (z : Nat → Nat), S c z 1 = c 0 * z 0 := fun c z => by simp [S]
  obtain ⟨A, hA⟩ : ∃ A, (pbOf a b).a 0 = A := ⟨_, rfl⟩
  obtain ⟨B, hB⟩ : ∃ B, (pbOf a b).b 0 = B := ⟨_, rfl⟩
  rw [hA] at ha1 ⊢
  rw [hB] at hb1 ⊢
  have hpos : 0 < A * B := Nat.mul_pos ha1.1 hb1.1
  obtain ⟨u, v, hm, _, _⟩ := exists_min (pbOf a b) (A * B) (fun i => if i = 0 then B else 0) (fun i => if i = 0 then A else 0) (by rw [hn, e1, hA]; rfl) (fun i hi => by rw [hn] at hi; exact if_neg (by omega)) (fun i hi => by rw [hq] at hi; exact if_neg (by omega)) (by rw [hn, hq, e1, e1, hA, hB]; show A * B = B * A; rw [Nat.mul_comm]) hpos
  have hall : ∀ w ∈ L, w = tolds (pbOf a b) u v := fun w hw => by
    obtain ⟨x, y, rfl, hm'⟩ := (h.mem h0 w).1 hw
    have q1 := hm.eq; have q2 := hm'.eq; have p1 := hm.pos; have p2 := hm'.pos
    rw [hn, hq, e1, e1, hA, hB] at q1 q2
    rw [hn, e1, hA] at p1 p2
    have key : ∀ {x y x' y' : Nat → Nat}, Min (pbOf a b) x y → Min (pbOf a b) x' y' → A * x 0 = B * y 0 → A * x' 0 = B * y' 0 → 0 < A * x 0 → x 0 ≤ x' 0 → x 0 = x' 0 ∧ y 0 = y' 0 := by
      intro x y x' y' m1 m2 k1 k2 k3 hle
      have hy : y 0 ≤ y' 0 := by
        have h5 : B * y 0 ≤ B * y' 0 := by rw [← k1, ← k2]; exact Nat.mul_le_mul_left _ hle
        exact Nat.le_of_mul_le_mul_left h5 hb1.1
      have h6 := m2.least x y (fun i => by
        cases i with
        | zero => exact hle
        | succ i => rw [m1.sx (i + 1) (by omega)]; exact Nat.zero_le _) (fun i => by
        cases i with
        | zero => exact hy
        | succ i => rw [m1.sy (i + 1) (by omega)]; exact Nat.zero_le _) m1.eq
      rw [hn, e1, e1, hA] at h6
      have h7 : A * x 0 = A * x' 0 := by omega
      have h8 : x 0 = x' 0 := Nat.eq_of_mul_eq_mul_left ha1.1 h7
      refine ⟨h8, ?_⟩
      have h9 : B * y 0 = B * y' 0 := by omega
      exact Nat.eq_of_mul_eq_mul_left hb1.1 h9
    have hxy : x 0 = u 0 ∧ y 0 = v 0 := by
      rcases Nat.le_total (x 0) (u 0) with h5 | h5
      · exact key hm' hm q2 q1 p2 h5
      · have := key hm hm' q1 q2 p1 h5
        exact ⟨this.1.symm, this.2.symm⟩
    unfold tolds
    rw [hn, hq]
    simp [hxy.1, hxy.2]
  have hin : tolds (pbOf a b) u v ∈ L := (h.mem h0 _).2 ⟨u, v, rfl, hm⟩
  have hL : L = [tolds (pbOf a b) u v] := by
    have hnd := h.nodup h0
    match L, hin, hall, hnd with
    | [w], _, hall, _ => rw [hall w List.mem_cons_self]
    | w :: w' :: r, _, hall, hnd =>
      have e : w = w' := (hall w List.mem_cons_self).trans (hall w' (by simp)).symm
      have := (List.nodup_cons.1 hnd).1
      exact absurd (by rw [e]; exact List.mem_cons_self) this
  have hbd := (search_all ok (by omega) (by omega)).2.2 u v hm
  have b1 := le_tot u (pbOf a b).n 0 (by omega)
  have b2 := le_tot v (pbOf a b).q 0 (by omega)
  refine ⟨u 0, v 0, ?_, ?_, by omega, by omega⟩
  · rw [hL]
    unfold tolds
    rw [hn, hq]
    rfl
  · have q1 := hm.eq
    rw [hn, hq, e1, e1, hA, hB] at q1
    exact q1
end Go.Proofs.Ytbdkogccjnmfoaa
