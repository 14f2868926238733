/- Plain: minimal solutions of a linear equation, a search that finds each of them once, and how many bits a number has. -/
import Derived.WalkKit
namespace Go.Proofs.Ytbdkogccjnmfoaa

/-- What coefficients and counts come to, of the first n. -/
def S (a x : Nat → Nat) : Nat → Nat
  | 0 => 0
  | n + 1 => S a x n + a n * x n
def up (x : Nat → Nat) (i : Nat) : Nat → Nat := fun j => if j = i then x j + 1 else x j
theorem S_up (a x : Nat → Nat) (i : Nat) : ∀ n, i < n → S a (up x i) n = S a x n + a i := by
  have far : ∀ n, n ≤ i → S a (up x i) n = S a x n := by
    intro n
    induction n with
    | zero => intro _; rfl
    | succ n ih =>
      intro h
      rw [S, S, ih (by omega)]
      unfold up
      rw [if_neg (by omega)]
  intro n
  induction n with
  | zero => intro h; omega
  | succ n ih =>
    intro h
    rw [S, S]
    by_cases hi : i = n
    · subst hi
      rw [far i (Nat.le_refl _)]
      unfold up
      rw [if_pos rfl, Nat.mul_add]
      omega
    · rw [ih (by omega)]
      unfold up
      rw [if_neg (by omega)]
      omega
theorem S_le (a : Nat → Nat) {x y : Nat → Nat} (h : ∀ i, x i ≤ y i) : ∀ n, S a x n ≤ S a y n := by
  intro n
  induction n with
  | zero => exact Nat.le_refl _
  | succ n ih => exact Nat.add_le_add ih (Nat.mul_le_mul_left _ (h n))
/-- Coefficients above 0: what is below and comes to the same is the same. -/
theorem S_same (a : Nat → Nat) {x y : Nat → Nat} (n : Nat) (ha : ∀ i, i < n → 1 ≤ a i) (h : ∀ i, x i ≤ y i) (e : S a x n = S a y n) : ∀ i, i < n → x i = y i := by
  induction n with
  | zero => intro i hi; omega
  | succ n ih =>
    have h1 := S_le a h n
    have h2 := Nat.mul_le_mul_left (a n) (h n)
    rw [S, S] at e
    intro i hi
    by_cases hin : i = n
    · subst hin
      have e1 : a i * x i = a i * y i := by omega
      exact Nat.eq_of_mul_eq_mul_left (ha i (by omega)) e1
    · exact ih (fun i hi => ha i (by omega)) (by omega) i (by omega)
theorem S_ext (a : Nat → Nat) {x y : Nat → Nat} (n : Nat) (h : ∀ i, i < n → x i = y i) : S a x n = S a y n := by
  induction n with
  | zero => rfl
  | succ n ih => rw [S, S, ih (fun i hi => h i (by omega)), h n (by omega)]
theorem S_zero (a : Nat → Nat) (n : Nat) : S a (fun _ => 0) n = 0 := by
  induction n with
  | zero => rfl
  | succ n ih => rw [S, ih]; simp
/-- A mask tells the sums of parts. -/
def Mask (n : Nat) (a x : Nat → Nat) (m : Nat) : Prop := ∀ s, m.testBit s = true ↔ ∃ z : Nat → Nat, (∀ i, z i ≤ x i) ∧ S a z n = s
def one (m c : Nat) : Nat := m ||| m <<< c
theorem one_bit (m c s : Nat) : (one m c).testBit s = true ↔ m.testBit s = true ∨ (c ≤ s ∧ m.testBit (s - c) = true) := by
  unfold one
  rw [Nat.testBit_or, Nat.testBit_shiftLeft]
  simp
theorem mask_zero (n : Nat) (a : Nat → Nat) : Mask n a (fun _ => 0) 1 := by
  intro s
  rw [show (1 : Nat) = 2 ^ 0 from rfl, Nat.testBit_two_pow]
  constructor
  · intro h
    have := of_decide_eq_true h
    exact ⟨fun _ => 0, fun _ => Nat.le_refl _, by rw [S_zero]; exact this⟩
  · rintro ⟨z, hz, rfl⟩
    have : S a z n = 0 := by rw [S_ext a n (y := fun _ => 0) (fun i _ => Nat.le_zero.1 (hz i)), S_zero]
    rw [this]
    rfl
theorem mask_up {n : Nat} {a x : Nat → Nat} {m i : Nat} (h : Mask n a x m) (hi : i < n) : Mask n a (up x i) (one m (a i)) := by
  intro s
  rw [one_bit]
  constructor
  · rintro (h1 | ⟨h1, h2⟩)
    · obtain ⟨z, hz, e⟩ := (h s).1 h1
      exact ⟨z, fun j => by have := hz j; unfold up; split <;> omega, e⟩
    · obtain ⟨z, hz, e⟩ := (h _).1 h2
      refine ⟨up z i, fun j => ?_, ?_⟩
      · have := hz j
        unfold up
        split <;> omega
      · rw [S_up a z i n hi]
        omega
  · rintro ⟨z, hz, rfl⟩
    by_cases hzi : z i ≤ x i
    · left
      refine (h _).2 ⟨z, fun j => ?_, rfl⟩
      have := hz j
      unfold up at this
      split at this
      · rename_i e
        rw [e]
        exact hzi
      · exact this
    · right
      have hz' := hz i
      unfold up at hz'
      rw [if_pos rfl] at hz'
      obtain ⟨u, hu⟩ : ∃ u : Nat → Nat, u = fun j => if j = i then x i else z j := ⟨_, rfl⟩
      have e : z = up u i := by
        funext j
        rw [hu]
        unfold up
        by_cases hj : j = i
        · subst hj
          simp
          omega
        · simp [hj]
      rw [e, S_up a u i n hi]
      refine ⟨by omega, (h _).2 ⟨u, fun j => ?_, by omega⟩⟩
      rw [hu]
      show (if j = i then x i else z j) ≤ x j
      have hzj := hz j
      unfold up at hzj
      split
      · rename_i hj
        rw [hj]
        exact Nat.le_refl _
      · rename_i hj
        rwa [if_neg hj] at hzj
theorem mask_lt {n : Nat} {a x : Nat → Nat} {m : Nat} (h : Mask n a x m) : m < 2 ^ (S a x n + 1) := by
  refine Nat.lt_pow_two_of_testBit _ fun i hi => ?_
  cases hb : m.testBit i with
  | false => rfl
  | true =>
    obtain ⟨z, hz, e⟩ := (h i).1 hb
    have := S_le a hz n
    omega
theorem mask_bit0 {n : Nat} {a x : Nat → Nat} {m : Nat} (h : Mask n a x m) : m.testBit 0 = true := (h 0).2 ⟨fun _ => 0, fun _ => Nat.zero_le _, S_zero a n⟩
theorem mask_whole {n : Nat} {a x : Nat → Nat} {m : Nat} (h : Mask n a x m) : m.testBit (S a x n) = true := (h _).2 ⟨x, fun _ => Nat.le_refl _, rfl⟩
theorem eq_one_iff {m : Nat} (h0 : m.testBit 0 = true) : m = 1 ↔ ∀ s, 0 < s → m.testBit s = false := by
  constructor
  · rintro rfl s hs
    rw [show (1 : Nat) = 2 ^ 0 from rfl, Nat.testBit_two_pow]
    exact decide_eq_false (by omega)
  · intro h
    refine Nat.eq_of_testBit_eq fun i => ?_
    cases i with
    | zero => rw [h0]; rfl
    | succ i =>
      rw [h _ (Nat.succ_pos i), show (1 : Nat) = 2 ^ 0 from rfl, Nat.testBit_two_pow]
      exact (decide_eq_false (by omega)).symm

structure Pb where
  n : Nat
  q : Nat
  a : Nat → Nat
  b : Nat → Nat
/-- What a search goes on from. -/
structure Tr where
  x : Nat → Nat
  y : Nat → Nat
  f : Nat
  g : Nat
  m : Nat
  k : Nat
  d : Int
/-- The coefficients are 1 to A, 1 to B. -/
structure Pb.Ok (p : Pb) (A B : Nat) : Prop where
  a1 : ∀ i, i < p.n → 1 ≤ p.a i ∧ p.a i ≤ A
  b1 : ∀ i, i < p.q → 1 ≤ p.b i ∧ p.b i ≤ B
  hA : 1 ≤ A
  hB : 1 ≤ B
def root : Tr := ⟨fun _ => 0, fun _ => 0, 0, 0, 1, 1, 0⟩
def kidX (p : Pb) (t : Tr) (i : Nat) : Tr := { t with x := up t.x i, f := i, m := one t.m (p.a i), d := t.d + p.a i }
def kidY (p : Pb) (t : Tr) (i : Nat) : Tr := { t with y := up t.y i, g := i, k := one t.k (p.b i), d := t.d - p.b i }
def kids (p : Pb) (t : Tr) : List Tr := if 0 < t.d then (List.range (p.q - t.g)).map (fun j => kidY p t (t.g + j)) else (List.range (p.n - t.f)).map (fun j => kidX p t (t.f + j))
def com (t : Tr) : Nat := t.m &&& t.k
def Pb.X (p : Pb) (t : Tr) : Nat := S p.a t.x p.n
def Pb.Y (p : Pb) (t : Tr) : Nat := S p.b t.y p.q
def tot (x : Nat → Nat) (n : Nat) : Nat := S (fun _ => 1) x n
theorem tot_up (x : Nat → Nat) {i n : Nat} (h : i < n) : tot (up x i) n = tot x n + 1 := S_up _ _ _ _ h
/-- A place that was passed. -/
structure Old (p : Pb) (t : Tr) (h : Nat × Nat) : Prop where
  x : h.1 ≤ p.X t
  y : h.2 ≤ p.Y t
  lt : h.1 + h.2 < p.X t + p.Y t
  m : t.m.testBit (p.X t - h.1) = true
  k : t.k.testBit (p.Y t - h.2) = true
structure Val (p : Pb) (A B : Nat) (t : Tr) : Prop where
  mx : Mask p.n p.a t.x t.m
  my : Mask p.q p.b t.y t.k
  sx : ∀ i, p.n ≤ i → t.x i = 0
  sy : ∀ i, p.q ≤ i → t.y i = 0
  fx : ∀ i, t.f < i → t.x i = 0
  fy : ∀ i, t.g < i → t.y i = 0
  dd : t.d = (p.X t : Int) - p.Y t
  dl : -(B : Int) < t.d
  dh : t.d ≤ A
  hist : ∃ P Q : List (Nat × Nat), P.length = tot t.x p.n ∧ Q.length = tot t.y p.q ∧ (∀ h ∈ P, h.1 ≤ h.2 ∧ h.2 - h.1 < B ∧ Old p t h) ∧ (∀ h ∈ Q, h.2 < h.1 ∧ h.1 - h.2 ≤ A ∧ Old p t h) ∧
    (P.map (fun h => h.2 - h.1)).Nodup ∧ (Q.map (fun h => h.1 - h.2)).Nodup
theorem val_root {p : Pb} {A B : Nat} (ok : p.Ok A B) : Val p A B root where
  mx := mask_zero _ _
  my := mask_zero _ _
  sx := fun _ _ => rfl
  sy := fun _ _ => rfl
  fx := fun _ _ => rfl
  fy := fun _ _ => rfl
  dd := by unfold Pb.X Pb.Y root; simp only [S_zero]; rfl
  dl := by have := ok.hB; show -(B : Int) < 0; omega
  dh := by show (0 : Int) ≤ A; omega
  hist := ⟨[], [], (S_zero _ _).symm, (S_zero _ _).symm, by simp, by simp, by simp, by simp⟩
theorem com_bit {t : Tr} {s : Nat} (h : com t = 1) (hs : 0 < s) (h1 : t.m.testBit s = true) (h2 : t.k.testBit s = true) : False := by
  have e : (com t).testBit s = true := by unfold com; rw [Nat.testBit_and, h1, h2]; rfl
  rw [h, show (1 : Nat) = 2 ^ 0 from rfl, Nat.testBit_two_pow] at e
  have := of_decide_eq_true e
  omega
theorem Old.new {p : Pb} {t : Tr} {h : Nat × Nat} (o : Old p t h) (hc : com t = 1) : (p.X t : Int) - p.Y t ≠ h.1 - h.2 := by
  intro e
  have h1 := o.x; have h2 := o.y; have h3 := o.lt
  have e1 : p.X t - h.1 = p.Y t - h.2 := by omega
  have hk := o.k
  rw [← e1] at hk
  exact com_bit hc (by omega) o.m hk
theorem Old.kidX {p : Pb} {t : Tr} {h : Nat × Nat} {i : Nat} (o : Old p t h) (hi : i < p.n) : Old p (kidX p t i) h := by
  have e : p.X (Go.Proofs.Ytbdkogccjnmfoaa.kidX p t i) = p.X t + p.a i := S_up _ _ _ _ hi
  have e2 : p.Y (Go.Proofs.Ytbdkogccjnmfoaa.kidX p t i) = p.Y t := rfl
  have h1 := o.x
  refine ⟨by omega, o.y, by have := o.lt; omega, ?_, o.k⟩
  rw [e]
  exact (one_bit _ _ _).2 (.inr ⟨by omega, by rw [show p.X t + p.a i - h.1 - p.a i = p.X t - h.1 by omega]; exact o.m⟩)
theorem Old.kidY {p : Pb} {t : Tr} {h : Nat × Nat} {i : Nat} (o : Old p t h) (hi : i < p.q) : Old p (kidY p t i) h := by
  have e : p.Y (Go.Proofs.Ytbdkogccjnmfoaa.kidY p t i) = p.Y t + p.b i := S_up _ _ _ _ hi
  have e2 : p.X (Go.Proofs.Ytbdkogccjnmfoaa.kidY p t i) = p.X t := rfl
  have h1 := o.y
  refine ⟨o.x, by omega, by have := o.lt; omega, o.m, ?_⟩
  rw [e]
  exact (one_bit _ _ _).2 (.inr ⟨by omega, by rw [show p.Y t + p.b i - h.2 - p.b i = p.Y t - h.2 by omega]; exact o.k⟩)
theorem up_zero {x : Nat → Nat} {i : Nat} {P : Nat → Prop} (h : ∀ j, P j → x j = 0) (hi : ¬ P i) : ∀ j, P j → up x i j = 0 := fun j hj => by
  unfold up
  rw [if_neg (fun e => hi (by rw [← e]; exact hj))]
  exact h j hj
theorem up_low {x : Nat → Nat} {i f : Nat} (h : ∀ j, f < j → x j = 0) (hi : f ≤ i) : ∀ j, i < j → up x i j = 0 := fun j hj => by
  unfold up
  rw [if_neg (by omega)]
  exact h j (by omega)
theorem val_kidX {p : Pb} {A B : Nat} {t : Tr} (ok : p.Ok A B) (v : Val p A B t) (hc : com t = 1) (hd : t.d ≤ 0) {i : Nat} (hf : t.f ≤ i) (hi : i < p.n) : Val p A B (kidX p t i) := by
  have e : p.X (kidX p t i) = p.X t + p.a i := S_up _ _ _ _ hi
  have e2 : p.Y (kidX p t i) = p.Y t := rfl
  have ha := ok.a1 i hi
  have hdd := v.dd; have hdl := v.dl
  obtain ⟨P, Q, h1, h2, h3, h4, h5, h6⟩ := v.hist
  refine ⟨mask_up v.mx hi, v.my, up_zero v.sx (by omega), v.sy, up_low v.fx hf, v.fy, ?_, ?_, ?_, ?_⟩
  · show t.d + p.a i = _
    omega
  · show -(B : Int) < t.d + p.a i
    omega
  · show t.d + p.a i ≤ _
    omega
  · refine ⟨(p.X t, p.Y t) :: P, Q, ?_, h2, ?_, fun h hh => ⟨(h4 h hh).1, (h4 h hh).2.1, (h4 h hh).2.2.kidX hi⟩, ?_, h6⟩
    · show P.length + 1 = tot (up t.x i) p.n
      rw [tot_up _ hi, h1]
    · intro h hh
      rcases List.mem_cons.1 hh with rfl | hh
      · refine ⟨by show p.X t ≤ p.Y t; omega, by show p.Y t - p.X t < B; omega, ⟨by show p.X t ≤ _; omega, by show p.Y t ≤ _; omega, by show p.X t + p.Y t < _; omega, ?_, ?_⟩⟩
        · show (one t.m (p.a i)).testBit (p.X (kidX p t i) - p.X t) = true
          rw [e, show p.X t + p.a i - p.X t = p.a i by omega]
          exact (one_bit _ _ _).2 (.inr ⟨Nat.le_refl _, by rw [Nat.sub_self]; exact mask_bit0 v.mx⟩)
        · show t.k.testBit (p.Y t - p.Y t) = true
          rw [Nat.sub_self]
          exact mask_bit0 v.my
      · exact ⟨(h3 h hh).1, (h3 h hh).2.1, (h3 h hh).2.2.kidX hi⟩
    · rw [List.map_cons, List.nodup_cons]
      refine ⟨?_, h5⟩
      intro hm
      obtain ⟨h, hh, he⟩ := List.mem_map.1 hm
      have := (h3 h hh).1
      refine (h3 h hh).2.2.new hc ?_
      have he' : h.2 - h.1 = p.Y t - p.X t := he
      omega
theorem val_kidY {p : Pb} {A B : Nat} {t : Tr} (ok : p.Ok A B) (v : Val p A B t) (hc : com t = 1) (hd : 0 < t.d) {i : Nat} (hf : t.g ≤ i) (hi : i < p.q) : Val p A B (kidY p t i) := by
  have e : p.Y (kidY p t i) = p.Y t + p.b i := S_up _ _ _ _ hi
  have e2 : p.X (kidY p t i) = p.X t := rfl
  have ha := ok.b1 i hi
  have hdd := v.dd; have hdl := v.dh
  obtain ⟨P, Q, h1, h2, h3, h4, h5, h6⟩ := v.hist
  refine ⟨v.mx, mask_up v.my hi, v.sx, up_zero v.sy (by omega), v.fx, up_low v.fy hf, ?_, ?_, ?_, ?_⟩
  · show t.d - p.b i = _
    omega
  · show -(B : Int) < t.d - p.b i
    omega
  · show t.d - p.b i ≤ _
    omega
  · refine ⟨P, (p.X t, p.Y t) :: Q, h1, ?_, fun h hh => ⟨(h3 h hh).1, (h3 h hh).2.1, (h3 h hh).2.2.kidY hi⟩, ?_, h5, ?_⟩
    · show Q.length + 1 = tot (up t.y i) p.q
      rw [tot_up _ hi, h2]
    · intro h hh
      rcases List.mem_cons.1 hh with rfl | hh
      · refine ⟨by show p.Y t < p.X t; omega, by show p.X t - p.Y t ≤ A; omega, ⟨by show p.X t ≤ _; omega, by show p.Y t ≤ _; omega, by show p.X t + p.Y t < _; omega, ?_, ?_⟩⟩
        · show t.m.testBit (p.X t - p.X t) = true
          rw [Nat.sub_self]
          exact mask_bit0 v.mx
        · show (one t.k (p.b i)).testBit (p.Y (kidY p t i) - p.Y t) = true
          rw [e, show p.Y t + p.b i - p.Y t = p.b i by omega]
          exact (one_bit _ _ _).2 (.inr ⟨Nat.le_refl _, by rw [Nat.sub_self]; exact mask_bit0 v.my⟩)
      · exact ⟨(h4 h hh).1, (h4 h hh).2.1, (h4 h hh).2.2.kidY hi⟩
    · rw [List.map_cons, List.nodup_cons]
      refine ⟨?_, h6⟩
      intro hm
      obtain ⟨h, hh, he⟩ := List.mem_map.1 hm
      have := (h4 h hh).1
      refine (h4 h hh).2.2.new hc ?_
      have he' : h.1 - h.2 = p.X t - p.Y t := he
      omega
theorem Val.totX {p : Pb} {A B : Nat} {t : Tr} (v : Val p A B t) : tot t.x p.n ≤ B := by
  obtain ⟨P, Q, h1, h2, h3, h4, h5, h6⟩ := v.hist
  have := h5.length_le_of_subset (l₂ := List.range B) (fun z hz => by
    obtain ⟨h, hh, rfl⟩ := List.mem_map.1 hz
    exact List.mem_range.2 (h3 h hh).2.1)
  rw [List.length_map, List.length_range] at this
  omega
theorem Val.totY {p : Pb} {A B : Nat} {t : Tr} (v : Val p A B t) : tot t.y p.q ≤ A := by
  obtain ⟨P, Q, h1, h2, h3, h4, h5, h6⟩ := v.hist
  have := h6.length_le_of_subset (l₂ := (List.range A).map (· + 1)) (fun z hz => by
    obtain ⟨h, hh, rfl⟩ := List.mem_map.1 hz
    refine List.mem_map.2 ⟨h.1 - h.2 - 1, List.mem_range.2 ?_, ?_⟩
    · have := (h4 h hh).1; have := (h4 h hh).2.1; omega
    · have := (h4 h hh).1; omega)
  rw [List.length_map, List.length_map, List.length_range] at this
  omega
theorem S_tot (a x : Nat → Nat) (A : Nat) : ∀ n, (∀ i, i < n → a i ≤ A) → S a x n ≤ A * tot x n := by
  intro n
  induction n with
  | zero => intro _; exact Nat.zero_le _
  | succ n ih =>
    intro h
    have := ih (fun i hi => h i (by omega))
    have h2 := Nat.mul_le_mul_right (x n) (h n (by omega))
    unfold tot at this ⊢
    rw [S, S, Nat.mul_add, Nat.one_mul]
    omega
theorem Val.small {p : Pb} {t : Tr} {A B : Nat} (v : Val p A B t) (ok : p.Ok A B) (hA : A ≤ 6) (hB : B ≤ 6) : p.X t ≤ 36 ∧ p.Y t ≤ 36 := by
  have h1 := S_tot p.a t.x A p.n (fun i hi => (ok.a1 i hi).2)
  have h2 := S_tot p.b t.y B p.q (fun i hi => (ok.b1 i hi).2)
  have h3 := Nat.mul_le_mul hA (Nat.le_trans v.totX hB)
  have h4 := Nat.mul_le_mul hB (Nat.le_trans v.totY hA)
  exact ⟨Nat.le_trans h1 h3, Nat.le_trans h2 h4⟩
theorem mem_kids {p : Pb} {t c : Tr} (h : c ∈ kids p t) : (0 < t.d ∧ ∃ i, t.g ≤ i ∧ i < p.q ∧ c = kidY p t i) ∨ (t.d ≤ 0 ∧ ∃ i, t.f ≤ i ∧ i < p.n ∧ c = kidX p t i) := by
  unfold kids at h
  split at h
  · rename_i hd
    obtain ⟨j, hj, rfl⟩ := List.mem_map.1 h
    have := List.mem_range.1 hj
    exact .inl ⟨hd, t.g + j, by omega, by omega, rfl⟩
  · rename_i hd
    obtain ⟨j, hj, rfl⟩ := List.mem_map.1 h
    have := List.mem_range.1 hj
    exact .inr ⟨by omega, t.f + j, by omega, by omega, rfl⟩
theorem Val.kid {p : Pb} {A B : Nat} {t c : Tr} (ok : p.Ok A B) (v : Val p A B t) (hc : com t = 1) (h : c ∈ kids p t) : Val p A B c ∧ tot c.x p.n + tot c.y p.q = tot t.x p.n + tot t.y p.q + 1 := by
  rcases mem_kids h with ⟨hd, i, h1, h2, rfl⟩ | ⟨hd, i, h1, h2, rfl⟩
  · refine ⟨val_kidY ok v hc hd h1 h2, ?_⟩
    show tot t.x p.n + tot (up t.y i) p.q = _
    rw [tot_up _ h2]
    omega
  · refine ⟨val_kidX ok v hc hd h1 h2, ?_⟩
    show tot (up t.x i) p.n + tot t.y p.q = _
    rw [tot_up _ h2]
    omega
/-- How many bits. -/
def cnt (m : Nat) : Nat := ((List.range 64).filter (fun i => m.testBit i)).length
theorem cnt_two {m W : Nat} (h0 : m.testBit 0 = true) (hW : m.testBit W = true) (hp : 0 < W) (h64 : W < 64) (hm : m < 2 ^ 64) : cnt m = 2 ↔ ∀ s, m.testBit s = true → s = 0 ∨ s = W := by
  unfold cnt
  have hn : ((List.range 64).filter (fun i => m.testBit i)).Nodup := List.nodup_range.filter _
  have hmem : ∀ s, m.testBit s = true → s ∈ (List.range 64).filter (fun i => m.testBit i) := fun s hs => by
    refine List.mem_filter.2 ⟨List.mem_range.2 ?_, hs⟩
    rcases Nat.lt_or_ge s 64 with h | h
    · exact h
    · rw [Nat.testBit_lt_two_pow (Nat.lt_of_lt_of_le hm (Nat.pow_le_pow_right (by omega) h))] at hs
      cases hs
  have hback : ∀ s, s ∈ (List.range 64).filter (fun i => m.testBit i) → m.testBit s = true := fun s hs => (List.mem_filter.1 hs).2
  generalize (List.range 64).filter (fun i => m.testBit i) = L at hn hmem hback
  have n2 : ([0, W] : List Nat).Nodup := by simp; omega
  have s2 : ([0, W] : List Nat) ⊆ L := fun s hs => by
    simp at hs
    rcases hs with rfl | rfl
    · exact hmem _ h0
    · exact hmem _ hW
  have l2 := n2.length_le_of_subset s2
  constructor
  · intro h s hs
    by_cases e1 : s = 0
    · exact .inl e1
    by_cases e2 : s = W
    · exact .inr e2
    exfalso
    have n3 : ([0, W, s] : List Nat).Nodup := by
      simp
      omega
    have s3 : ([0, W, s] : List Nat) ⊆ L := fun u hu => by
      simp at hu
      rcases hu with rfl | rfl | rfl
      · exact hmem _ h0
      · exact hmem _ hW
      · exact hmem _ hs
    have l3 := n3.length_le_of_subset s3
    simp at l3
    omega
  · intro h
    have l4 := hn.length_le_of_subset (l₂ := [0, W]) (fun s hs => by
      rcases h s (hback s hs) with rfl | rfl <;> simp)
    simp at l2 l4
    omega

/-- A minimal solution. -/
structure Min (p : Pb) (x y : Nat → Nat) : Prop where
  sx : ∀ i, p.n ≤ i → x i = 0
  sy : ∀ i, p.q ≤ i → y i = 0
  eq : S p.a x p.n = S p.b y p.q
  pos : 0 < S p.a x p.n
  least : ∀ u v : Nat → Nat, (∀ i, u i ≤ x i) → (∀ i, v i ≤ y i) → S p.a u p.n = S p.b v p.q → S p.a u p.n = 0 ∨ S p.a u p.n = S p.a x p.n
def tolds (p : Pb) (x y : Nat → Nat) : List Nat := (List.range p.n).map x ++ (List.range p.q).map y
def told (p : Pb) (t : Tr) : List Nat := tolds p t.x t.y
/-- The vectors that come of an attempt. -/
def res (p : Pb) : Nat → Tr → List (List Nat)
  | 0, _ => []
  | D + 1, t => if com t = 1 then (kids p t).reverse.flatMap (res p D) else if t.d = 0 ∧ cnt (com t) = 2 then [told p t] else []
/-- A bound on how deep it goes. -/
def Deep (p : Pb) : Nat → Tr → Prop
  | 0, _ => False
  | D + 1, t => com t = 1 → ∀ c, c ∈ kids p t → Deep p D c
/-- How many attempts come of it. -/
def siz (p : Pb) : Nat → Tr → Nat
  | 0, _ => 0
  | D + 1, t => 1 + if com t = 1 then ((kids p t).map (siz p D)).sum else 0
theorem Deep.mono {p : Pb} : ∀ {D : Nat} {t : Tr}, Deep p D t → Deep p (D + 1) t := by
  intro D
  induction D with
  | zero => intro t h; exact h.elim
  | succ D ih => intro t h hc c hk; exact ih (h hc c hk)
theorem res_more {p : Pb} : ∀ {D : Nat} {t : Tr}, Deep p D t → res p (D + 1) t = res p D t := by
  intro D
  induction D with
  | zero => intro t h; exact h.elim
  | succ D ih =>
    intro t h
    rw [res, res]
    by_cases hc : com t = 1
    · rw [if_pos hc, if_pos hc]
      have : ∀ l : List Tr, (∀ c ∈ l, c ∈ kids p t) → l.flatMap (res p (D + 1)) = l.flatMap (res p D) := by
        intro l
        induction l with
        | nil => intro _; rfl
        | cons c l il =>
          intro hl
          rw [List.flatMap_cons, List.flatMap_cons, ih (h hc c (hl c (List.mem_cons_self))), il (fun c hc => hl c (List.mem_cons_of_mem _ hc))]
      exact this _ (fun c hc => List.mem_reverse.1 hc)
    · rw [if_neg hc, if_neg hc]
theorem siz_more {p : Pb} : ∀ {D : Nat} {t : Tr}, Deep p D t → siz p (D + 1) t = siz p D t := by
  intro D
  induction D with
  | zero => intro t h; exact h.elim
  | succ D ih =>
    intro t h
    rw [siz, siz]
    by_cases hc : com t = 1
    · rw [if_pos hc, if_pos hc]
      have : ∀ l : List Tr, (∀ c ∈ l, c ∈ kids p t) → (l.map (siz p (D + 1))).sum = (l.map (siz p D)).sum := by
        intro l
        induction l with
        | nil => intro _; rfl
        | cons c l il =>
          intro hl
          rw [List.map_cons, List.map_cons, List.sum_cons, List.sum_cons, ih (h hc c (hl c (List.mem_cons_self))), il (fun c hc => hl c (List.mem_cons_of_mem _ hc))]
      rw [this _ (fun c hc => hc)]
    · rw [if_neg hc, if_neg hc]
theorem Val.deep {p : Pb} {A B : Nat} (ok : p.Ok A B) : ∀ {D : Nat} {t : Tr}, Val p A B t → A + B + 1 ≤ D + tot t.x p.n + tot t.y p.q → Deep p D t := by
  intro D
  induction D with
  | zero => intro t v h; have := v.totX; have := v.totY; omega
  | succ D ih =>
    intro t v h hc c hk
    obtain ⟨v', e⟩ := v.kid ok hc hk
    exact ih v' (by omega)
/-- A vector goes on from an attempt. -/
structure Pre (t : Tr) (x y : Nat → Nat) : Prop where
  x1 : ∀ i, i < t.f → t.x i = x i
  x2 : t.x t.f ≤ x t.f
  y1 : ∀ i, i < t.g → t.y i = y i
  y2 : t.y t.g ≤ y t.g
theorem Pre.root (x y : Nat → Nat) : Pre root x y := ⟨fun i hi => absurd hi (Nat.not_lt_zero i), Nat.zero_le _, fun i hi => absurd hi (Nat.not_lt_zero i), Nat.zero_le _⟩
theorem Pre.leX {p : Pb} {A B : Nat} {t : Tr} {x y : Nat → Nat} (h : Pre t x y) (v : Val p A B t) (i : Nat) : t.x i ≤ x i := by
  rcases Nat.lt_trichotomy i t.f with h1 | h1 | h1
  · rw [h.x1 i h1]; exact Nat.le_refl _
  · rw [h1]; exact h.x2
  · rw [v.fx i h1]; exact Nat.zero_le _
theorem Pre.leY {p : Pb} {A B : Nat} {t : Tr} {x y : Nat → Nat} (h : Pre t x y) (v : Val p A B t) (i : Nat) : t.y i ≤ y i := by
  rcases Nat.lt_trichotomy i t.g with h1 | h1 | h1
  · rw [h.y1 i h1]; exact Nat.le_refl _
  · rw [h1]; exact h.y2
  · rw [v.fy i h1]; exact Nat.zero_le _
/-- Both masks' bits. -/
theorem com_iff {p : Pb} {A B : Nat} {t : Tr} (v : Val p A B t) (s : Nat) : (com t).testBit s = true ↔ ∃ u w : Nat → Nat, (∀ i, u i ≤ t.x i) ∧ (∀ i, w i ≤ t.y i) ∧ S p.a u p.n = s ∧ S p.b w p.q = s := by
  unfold com
  rw [Nat.testBit_and, Bool.and_eq_true, v.mx s, v.my s]
  constructor
  · rintro ⟨⟨u, h1, h2⟩, ⟨w, h3, h4⟩⟩
    exact ⟨u, w, h1, h3, h2, h4⟩
  · rintro ⟨u, w, h1, h3, h2, h4⟩
    exact ⟨⟨u, h1, h2⟩, ⟨w, h3, h4⟩⟩
theorem com_bit0 {p : Pb} {A B : Nat} {t : Tr} (v : Val p A B t) : (com t).testBit 0 = true := (com_iff v 0).2 ⟨fun _ => 0, fun _ => 0, fun _ => Nat.zero_le _, fun _ => Nat.zero_le _, S_zero _ _, S_zero _ _⟩
theorem com_lt {p : Pb} {A B : Nat} {t : Tr} (v : Val p A B t) (ok : p.Ok A B) (hA : A ≤ 6) (hB : B ≤ 6) : t.m < 2 ^ 37 ∧ t.k < 2 ^ 37 ∧ com t < 2 ^ 37 := by
  have hs := v.small ok hA hB
  have h1 : t.m < 2 ^ 37 := Nat.lt_of_lt_of_le (mask_lt v.mx) (Nat.pow_le_pow_right (by omega) (by unfold Pb.X at hs; omega))
  have h2 : t.k < 2 ^ 37 := Nat.lt_of_lt_of_le (mask_lt v.my) (Nat.pow_le_pow_right (by omega) (by unfold Pb.Y at hs; omega))
  exact ⟨h1, h2, Nat.lt_of_le_of_lt Nat.and_le_left h1⟩
/-- A solution, told by its masks. -/
theorem min_iff {p : Pb} {A B : Nat} {t : Tr} (v : Val p A B t) (ok : p.Ok A B) (hA : A ≤ 6) (hB : B ≤ 6) (hd : t.d = 0) (hc : com t ≠ 1) : cnt (com t) = 2 ↔ Min p t.x t.y := by
  have hdd := v.dd
  have hs := v.small ok hA hB
  have eq : S p.a t.x p.n = S p.b t.y p.q := by unfold Pb.X Pb.Y at hdd; omega
  have hW : (com t).testBit (S p.a t.x p.n) = true := (com_iff v _).2 ⟨t.x, t.y, fun _ => Nat.le_refl _, fun _ => Nat.le_refl _, rfl, eq.symm⟩
  have hpos : 0 < S p.a t.x p.n := by
    rcases Nat.eq_zero_or_pos (S p.a t.x p.n) with h0 | h0
    · exfalso
      apply hc
      refine (eq_one_iff (com_bit0 v)).2 fun s hs => ?_
      cases hb : (com t).testBit s with
      | false => rfl
      | true =>
        obtain ⟨u, w, h1, h2, h3, h4⟩ := (com_iff v s).1 hb
        have := S_le p.a h1 p.n
        omega
    · exact h0
  rw [cnt_two (com_bit0 v) hW hpos (by unfold Pb.X at hs; omega) (Nat.lt_of_lt_of_le (com_lt v ok hA hB).2.2 (by decide))]
  constructor
  · intro h
    refine ⟨v.sx, v.sy, eq, hpos, fun u w hu hw e => ?_⟩
    exact h _ ((com_iff v _).2 ⟨u, w, hu, hw, rfl, e.symm⟩)
  · intro h s hb
    obtain ⟨u, w, h1, h2, h3, h4⟩ := (com_iff v s).1 hb
    have := h.least u w h1 h2 (by omega)
    omega
/-- What goes on to a minimal solution, and is none, has nothing in common. -/
theorem Pre.go {p : Pb} {A B : Nat} {t : Tr} {x y : Nat → Nat} (h : Pre t x y) (v : Val p A B t) (ok : p.Ok A B) (m : Min p x y) : com t = 1 ∨ (t.x = x ∧ t.y = y) := by
  by_cases hc : com t = 1
  · exact .inl hc
  right
  have : ∃ s, 0 < s ∧ (com t).testBit s = true := by
    rcases Classical.em (∃ s, 0 < s ∧ (com t).testBit s = true) with h | h
    · exact h
    · exfalso
      exact hc ((eq_one_iff (com_bit0 v)).2 fun s hs => by
        cases hb : (com t).testBit s with
        | false => rfl
        | true => exact absurd ⟨s, hs, hb⟩ h)
  obtain ⟨s, hs, hb⟩ := this
  obtain ⟨u, w, h1, h2, h3, h4⟩ := (com_iff v s).1 hb
  have hx := h.leX v; have hy := h.leY v
  have e := m.least u w (fun i => Nat.le_trans (h1 i) (hx i)) (fun i => Nat.le_trans (h2 i) (hy i)) (by omega)
  have e1 : S p.a u p.n = S p.a x p.n := by omega
  have e2 : S p.b w p.q = S p.b y p.q := by have := m.eq; omega
  have b1 := S_le p.a h1 p.n; have b2 := S_le p.a hx p.n
  have b3 := S_le p.b h2 p.q; have b4 := S_le p.b hy p.q
  constructor
  · funext i
    by_cases hi : i < p.n
    · exact S_same p.a p.n (fun i hi => (ok.a1 i hi).1) hx (by omega) i hi
    · rw [v.sx i (by omega), m.sx i (by omega)]
  · funext i
    by_cases hi : i < p.q
    · exact S_same p.b p.q (fun i hi => (ok.b1 i hi).1) hy (by omega) i hi
    · rw [v.sy i (by omega), m.sy i (by omega)]
/-- The first place at which something is left. -/
theorem first_lt {x z : Nat → Nat} (hle : ∀ i, x i ≤ z i) : ∀ (k f : Nat), (∀ i, i < f → x i = z i) → (∃ i, i < f + k ∧ x i < z i) → ∃ i, f ≤ i ∧ i < f + k ∧ x i < z i ∧ ∀ j, j < i → x j = z j := by
  intro k
  induction k with
  | zero => rintro f h ⟨i, hi, hlt⟩; have := h i (by omega); omega
  | succ k ih =>
    rintro f h ⟨i, hi, hlt⟩
    by_cases hf : x f < z f
    · exact ⟨f, Nat.le_refl _, by omega, hf, fun j hj => h j hj⟩
    · have he : x f = z f := by have := hle f; omega
      obtain ⟨i', h1, h2, h3, h4⟩ := ih (f + 1) (fun j hj => by
        rcases Nat.lt_or_ge j f with h5 | h5
        · exact h j h5
        · rw [show j = f by omega]; exact he) ⟨i, by omega, hlt⟩
      exact ⟨i', by omega, by omega, h3, h4⟩
theorem less_ex (a : Nat → Nat) {x z : Nat → Nat} (n : Nat) (hle : ∀ i, x i ≤ z i) (h : S a x n ≠ S a z n) : ∃ i, i < n ∧ x i < z i := by
  rcases Classical.em (∃ i, i < n ∧ x i < z i) with h1 | h1
  · exact h1
  · exact absurd (S_ext a n fun i hi => by
      have := hle i
      rcases Nat.lt_or_ge (x i) (z i) with h2 | h2
      · exact absurd ⟨i, hi, h2⟩ h1
      · omega) h
theorem Pre.kid {p : Pb} {A B : Nat} {t : Tr} {x y : Nat → Nat} (h : Pre t x y) (v : Val p A B t) (ok : p.Ok A B) (m : Min p x y) (hne : ¬ (t.x = x ∧ t.y = y)) : ∃ c, c ∈ kids p t ∧ Pre c x y := by
  have hx := h.leX v; have hy := h.leY v
  have b2 := S_le p.a hx p.n; have b4 := S_le p.b hy p.q
  have hdd := v.dd; have hm := m.eq
  unfold Pb.X Pb.Y at hdd
  have hboth : ¬ (S p.a t.x p.n = S p.a x p.n ∧ S p.b t.y p.q = S p.b y p.q) := by
    rintro ⟨e1, e2⟩
    apply hne
    constructor
    · funext i
      by_cases hi : i < p.n
      · exact S_same p.a p.n (fun i hi => (ok.a1 i hi).1) hx e1 i hi
      · rw [v.sx i (by omega), m.sx i (by omega)]
    · funext i
      by_cases hi : i < p.q
      · exact S_same p.b p.q (fun i hi => (ok.b1 i hi).1) hy e2 i hi
      · rw [v.sy i (by omega), m.sy i (by omega)]
  by_cases hd : 0 < t.d
  · obtain ⟨i0, hi0, hl0⟩ := less_ex p.b p.q hy (by omega)
    have hg0 : t.g ≤ i0 := by
      rcases Nat.lt_or_ge i0 t.g with h1 | h1
      · have := h.y1 i0 h1; omega
      · exact h1
    obtain ⟨i, h1, h2, h3, h4⟩ := first_lt hy (p.q - t.g) t.g h.y1 ⟨i0, by omega, hl0⟩
    refine ⟨kidY p t i, ?_, ⟨h.x1, h.x2, ?_, ?_⟩⟩
    · unfold kids
      rw [if_pos hd]
      exact List.mem_map.2 ⟨i - t.g, List.mem_range.2 (by omega), by rw [show t.g + (i - t.g) = i by omega]⟩
    · intro j hj
      have hj' : j < i := hj
      show up t.y i j = y j
      unfold up
      rw [if_neg (by omega)]
      exact h4 j hj'
    · show up t.y i i ≤ y i
      unfold up
      rw [if_pos rfl]
      omega
  · obtain ⟨i0, hi0, hl0⟩ := less_ex p.a p.n hx (by omega)
    have hg0 : t.f ≤ i0 := by
      rcases Nat.lt_or_ge i0 t.f with h1 | h1
      · have := h.x1 i0 h1; omega
      · exact h1
    obtain ⟨i, h1, h2, h3, h4⟩ := first_lt hx (p.n - t.f) t.f h.x1 ⟨i0, by omega, hl0⟩
    refine ⟨kidX p t i, ?_, ⟨?_, ?_, h.y1, h.y2⟩⟩
    · unfold kids
      rw [if_neg hd]
      exact List.mem_map.2 ⟨i - t.f, List.mem_range.2 (by omega), by rw [show t.f + (i - t.f) = i by omega]⟩
    · intro j hj
      have hj' : j < i := hj
      show up t.x i j = x j
      unfold up
      rw [if_neg (by omega)]
      exact h4 j hj'
    · show up t.x i i ≤ x i
      unfold up
      rw [if_pos rfl]
      omega
theorem Pre.of_kid {p : Pb} {t c : Tr} {x y : Nat → Nat} (hk : c ∈ kids p t) (h : Pre c x y) : Pre t x y := by
  rcases mem_kids hk with ⟨hd, i, h1, h2, rfl⟩ | ⟨hd, i, h1, h2, rfl⟩
  · have q1 : ∀ j, j < i → up t.y i j = y j := h.y1
    have q2 : up t.y i i ≤ y i := h.y2
    refine ⟨h.x1, h.x2, fun j hj => ?_, ?_⟩
    · have := q1 j (by omega)
      unfold up at this
      rwa [if_neg (by omega)] at this
    · unfold up at q1 q2
      rw [if_pos rfl] at q2
      rcases Nat.lt_or_ge t.g i with h5 | h5
      · have := q1 t.g h5
        rw [if_neg (by omega)] at this
        omega
      · rw [show t.g = i by omega]
        omega
  · have q1 : ∀ j, j < i → up t.x i j = x j := h.x1
    have q2 : up t.x i i ≤ x i := h.x2
    refine ⟨fun j hj => ?_, ?_, h.y1, h.y2⟩
    · have := q1 j (by omega)
      unfold up at this
      rwa [if_neg (by omega)] at this
    · unfold up at q1 q2
      rw [if_pos rfl] at q2
      rcases Nat.lt_or_ge t.f i with h5 | h5
      · have := q1 t.f h5
        rw [if_neg (by omega)] at this
        omega
      · rw [show t.f = i by omega]
        omega
theorem res_sound {p : Pb} {A B : Nat} (ok : p.Ok A B) (hA : A ≤ 6) (hB : B ≤ 6) : ∀ (D : Nat) (t : Tr), Val p A B t → ∀ v, v ∈ res p D t → ∃ x y, v = tolds p x y ∧ Min p x y ∧ Pre t x y := by
  intro D
  induction D with
  | zero => intro t _ v h; cases h
  | succ D ih =>
    intro t hv v h
    rw [res] at h
    split at h
    · rename_i hc
      obtain ⟨c, hk, hm⟩ := List.mem_flatMap.1 h
      have hk := List.mem_reverse.1 hk
      obtain ⟨x, y, h1, h2, h3⟩ := ih c (hv.kid ok hc hk).1 v hm
      exact ⟨x, y, h1, h2, h3.of_kid hk⟩
    · rename_i hc
      split at h
      · rename_i hd
        obtain rfl := List.mem_singleton.1 h
        exact ⟨t.x, t.y, rfl, (min_iff hv ok hA hB hd.1 hc).1 hd.2, ⟨fun _ _ => rfl, Nat.le_refl _, fun _ _ => rfl, Nat.le_refl _⟩⟩
      · cases h
theorem min_com {p : Pb} {A B : Nat} {t : Tr} (v : Val p A B t) (m : Min p t.x t.y) : com t ≠ 1 ∧ t.d = 0 := by
  have hdd := v.dd; have hm := m.eq
  unfold Pb.X Pb.Y at hdd
  refine ⟨fun hc => ?_, by omega⟩
  have hw := mask_whole v.my
  rw [← hm] at hw
  exact com_bit hc m.pos (mask_whole v.mx) hw
theorem res_all {p : Pb} {A B : Nat} (ok : p.Ok A B) (hA : A ≤ 6) (hB : B ≤ 6) {x y : Nat → Nat} (m : Min p x y) : ∀ (D : Nat) (t : Tr), Val p A B t → A + B + 1 ≤ D + tot t.x p.n + tot t.y p.q → Pre t x y → tolds p x y ∈ res p D t ∧ ∃ t', Val p A B t' ∧ t'.x = x ∧ t'.y = y := by
  intro D
  induction D with
  | zero => intro t v h; have := v.totX; have := v.totY; omega
  | succ D ih =>
    intro t v h hp
    by_cases he : t.x = x ∧ t.y = y
    · have m' : Min p t.x t.y := by rw [he.1, he.2]; exact m
      obtain ⟨hc, hd⟩ := min_com v m'
      refine ⟨?_, t, v, he⟩
      rw [res, if_neg hc, if_pos ⟨hd, (min_iff v ok hA hB hd hc).2 m'⟩]
      exact List.mem_singleton.2 (by unfold told; rw [he.1, he.2])
    · have hc := (hp.go v ok m).resolve_right he
      obtain ⟨c, hk, hpc⟩ := hp.kid v ok m he
      obtain ⟨vc, ec⟩ := v.kid ok hc hk
      obtain ⟨h1, h2⟩ := ih c vc (by omega) hpc
      refine ⟨?_, h2⟩
      rw [res, if_pos hc]
      exact List.mem_flatMap.2 ⟨c, List.mem_reverse.2 hk, h1⟩
theorem tolds_inj {p : Pb} {x y x' y' : Nat → Nat} (h : tolds p x y = tolds p x' y') : (∀ i, i < p.n → x i = x' i) ∧ (∀ i, i < p.q → y i = y' i) := by
  unfold tolds at h
  obtain ⟨h1, h2⟩ := List.append_inj h (by simp)
  constructor
  · intro i hi
    have := congrArg (fun l => l[i]?) h1
    simpa [hi] using this
  · intro i hi
    have := congrArg (fun l => l[i]?) h2
    simpa [hi] using this
theorem res_nodup {p : Pb} {A B : Nat} (ok : p.Ok A B) (hA : A ≤ 6) (hB : B ≤ 6) : ∀ (D : Nat) (t : Tr), Val p A B t → (res p D t).Nodup := by
  intro D
  induction D with
  | zero => intro t _; exact List.nodup_nil
  | succ D ih =>
    intro t v
    rw [res]
    split
    · rename_i hc
      refine List.pairwise_flatMap.2 ⟨fun c hk => ih c (v.kid ok hc (List.mem_reverse.1 hk)).1, ?_⟩
      refine List.pairwise_reverse.2 ?_
      have key : ∀ c e, c ∈ kids p t → e ∈ kids p t → (∀ x y, Pre c x y → Pre e x y → Min p x y → False) → ∀ v ∈ res p D e, ∀ w ∈ res p D c, v ≠ w := by
        intro c e hc1 he1 hf v1 hv1 w1 hw1 heq
        subst heq
        obtain ⟨x, y, h1, h2, h3⟩ := res_sound ok hA hB D e (v.kid ok hc he1).1 v1 hv1
        obtain ⟨x', y', h1', h2', h3'⟩ := res_sound ok hA hB D c (v.kid ok hc hc1).1 v1 hw1
        obtain ⟨i1, i2⟩ := tolds_inj (h1.symm.trans h1')
        have ex : x = x' := by
          funext i
          by_cases hi : i < p.n
          · exact i1 i hi
          · rw [h2.sx i (by omega), h2'.sx i (by omega)]
        have ey : y = y' := by
          funext i
          by_cases hi : i < p.q
          · exact i2 i hi
          · rw [h2.sy i (by omega), h2'.sy i (by omega)]
        subst ex ey
        exact hf x y h3' h3 h2
      have hall : ∀ c, c ∈ kids p t → c ∈ kids p t := fun _ h => h
      revert hall key
      generalize hK : kids p t = K
      intro key _
      unfold kids at hK
      split at hK
      · subst hK
        refine List.pairwise_map.2 (List.Pairwise.imp_of_mem ?_ List.pairwise_lt_range)
        intro i j hi hj hlt
        refine key _ _ (List.mem_map.2 ⟨i, hi, rfl⟩) (List.mem_map.2 ⟨j, hj, rfl⟩) ?_
        intro x y h1 h2 _
        have q1 : up t.y (t.g + i) (t.g + i) ≤ y (t.g + i) := h1.y2
        have q2 : ∀ l, l < t.g + j → up t.y (t.g + j) l = y l := h2.y1
        have := q2 (t.g + i) (by omega)
        unfold up at q1 this
        rw [if_pos rfl] at q1
        rw [if_neg (by omega)] at this
        omega
      · subst hK
        refine List.pairwise_map.2 (List.Pairwise.imp_of_mem ?_ List.pairwise_lt_range)
        intro i j hi hj hlt
        refine key _ _ (List.mem_map.2 ⟨i, hi, rfl⟩) (List.mem_map.2 ⟨j, hj, rfl⟩) ?_
        intro x y h1 h2 _
        have q1 : up t.x (t.f + i) (t.f + i) ≤ x (t.f + i) := h1.x2
        have q2 : ∀ l, l < t.f + j → up t.x (t.f + j) l = x l := h2.x1
        have := q2 (t.f + i) (by omega)
        unfold up at q1 this
        rw [if_pos rfl] at q1
        rw [if_neg (by omega)] at this
        omega
    · split
      · exact List.pairwise_singleton _ _
      · exact List.nodup_nil
/-- The search finds the minimal solutions, each once; and they keep the bounds. -/
theorem search_all {p : Pb} {A B : Nat} (ok : p.Ok A B) (hA : A ≤ 6) (hB : B ≤ 6) : (res p 13 root).Nodup ∧ (∀ v, v ∈ res p 13 root ↔ ∃ x y, v = tolds p x y ∧ Min p x y) ∧ ∀ x y, Min p x y → tot x p.n ≤ B ∧ tot y p.q ≤ A := by
  have v0 := val_root ok
  have h13 : A + B + 1 ≤ 13 + tot root.x p.n + tot root.y p.q := by omega
  refine ⟨res_nodup ok hA hB _ _ v0, fun v => ⟨fun h => ?_, ?_⟩, fun x y m => ?_⟩
  · obtain ⟨x, y, h1, h2, _⟩ := res_sound ok hA hB _ _ v0 v h
    exact ⟨x, y, h1, h2⟩
  · rintro ⟨x, y, rfl, m⟩
    exact (res_all ok hA hB m 13 root v0 h13 (Pre.root _ _)).1
  · obtain ⟨t, vt, rfl, rfl⟩ := (res_all ok hA hB m 13 root v0 h13 (Pre.root _ _)).2
    exact ⟨vt.totX, vt.totY⟩

/-- A number by its bytes. -/
def val8 : List Nat → Nat
  | [] => 0
  | r :: l => r + 256 * val8 l
theorem val8_lt : ∀ (l : List Nat) (k : Nat), l.length ≤ k → (∀ r ∈ l, r < 256) → val8 l < 2 ^ (8 * k) := by
  intro l
  induction l with
  | nil => intro k _ _; exact Nat.two_pow_pos _
  | cons r l ih =>
    intro k hk h
    cases k with
    | zero => simp at hk
    | succ k =>
      have h1 := ih k (by simp at hk; omega) (fun r hr => h r (List.mem_cons_of_mem _ hr))
      have h2 := h r List.mem_cons_self
      rw [val8, show 8 * (k + 1) = 8 * k + 8 by omega, Nat.pow_add]
      omega
theorem and_split (q r C : Nat) (hr : r < 256) : (r + 256 * q) &&& C = (r &&& (C % 256)) + 256 * (q &&& (C / 256)) := by
  have h1 : ((r + 256 * q) &&& C) / 2 ^ 8 = (r + 256 * q) / 2 ^ 8 &&& C / 2 ^ 8 := Nat.and_div_two_pow
  have h2 : ((r + 256 * q) &&& C) % 2 ^ 8 = (r + 256 * q) % 2 ^ 8 &&& C % 2 ^ 8 := Nat.and_mod_two_pow
  have e1 : (r + 256 * q) / 2 ^ 8 = q := by omega
  have e2 : (r + 256 * q) % 2 ^ 8 = r := by omega
  rw [e1] at h1
  rw [e2] at h2
  generalize ((r + 256 * q) &&& C) = z at h1 h2
  have := Nat.div_add_mod z 256
  simp only [show (2 : Nat) ^ 8 = 256 from rfl] at h1 h2
  omega
theorem and_low (q C D : Nat) (hq : q < 2 ^ 56) (hC : C % 2 ^ 56 = D) : q &&& C = q &&& D := by
  have h1 : (q &&& C) % 2 ^ 56 = q % 2 ^ 56 &&& C % 2 ^ 56 := Nat.and_mod_two_pow
  rw [Nat.mod_eq_of_lt (Nat.lt_of_le_of_lt Nat.and_le_left hq), Nat.mod_eq_of_lt hq, hC] at h1
  exact h1
def p1 (m : Nat) : Nat := (m / 2 &&& 6148914691236517205) + (m &&& 6148914691236517205)
def p2 (m : Nat) : Nat := (m / 4 &&& 3689348814741910323) + (m &&& 3689348814741910323)
def p3 (m : Nat) : Nat := (m / 16 + m) &&& 1085102592571150095
def b1 (r : Nat) : Nat := (r / 2 &&& 85) + (r &&& 85)
def b2 (r : Nat) : Nat := (r / 4 &&& 51) + (r &&& 51)
def b3 (r : Nat) : Nat := (r / 16 + r) &&& 15
theorem and_step (q r C c : Nat) (hr : r < 256) (hq : q < 2 ^ 56) (h1 : C % 256 = c) (h2 : C % 2 ^ 56 = C / 256) : (r + 256 * q) &&& C = (r &&& c) + 256 * (q &&& C) := by
  rw [and_split q r C hr, h1, and_low q C (C / 256) hq h2]
theorem byte1 : ∀ k r, k < 2 → r < 256 → (r / 2 + 128 * k) &&& 85 = r / 2 &&& 85 := by
  have : ∀ k, k < 2 → ∀ r, r < 256 → (r / 2 + 128 * k) &&& 85 = r / 2 &&& 85 := by decide +kernel
  exact fun k r hk hr => this k hk r hr
theorem byte2 : ∀ k r, k < 4 → r < 256 → (r / 4 + 64 * k) &&& 51 = r / 4 &&& 51 := by
  have : ∀ k, k < 4 → ∀ r, r < 256 → (r / 4 + 64 * k) &&& 51 = r / 4 &&& 51 := by decide +kernel
  exact fun k r hk hr => this k hk r hr
theorem byte3 : ∀ k r, k < 5 → r < 256 → r % 16 ≤ 4 → r / 16 ≤ 4 → (r / 16 + 16 * k + r) &&& 15 = b3 r := by
  have : ∀ k, k < 5 → ∀ r, r < 256 → r % 16 ≤ 4 → r / 16 ≤ 4 → (r / 16 + 16 * k + r) &&& 15 = b3 r := by decide +kernel
  exact fun k r hk hr h1 h2 => this k hk r hr h1 h2
theorem byte_all : ∀ r, r < 256 → b1 r < 256 ∧ b2 (b1 r) < 256 ∧ b2 (b1 r) % 16 ≤ 4 ∧ b2 (b1 r) / 16 ≤ 4 ∧ b3 (b2 (b1 r)) = ((List.range 8).filter (fun i => r.testBit i)).length ∧ b3 (b2 (b1 r)) ≤ 8 := by decide +kernel
theorem p1_val : ∀ l : List Nat, l.length ≤ 8 → (∀ r ∈ l, r < 256) → p1 (val8 l) = val8 (l.map b1) := by
  intro l
  induction l with
  | nil => intro _ _; rfl
  | cons r l ih =>
    intro hk h
    have hr := h r List.mem_cons_self
    have hl : ∀ r ∈ l, r < 256 := fun r hr => h r (List.mem_cons_of_mem _ hr)
    have ih := ih (by simp at hk; omega) hl
    have hq : val8 l < 2 ^ 56 := val8_lt l 7 (by simp at hk; omega) hl
    rw [List.map_cons, val8, val8, ← ih]
    generalize val8 l = q at hq
    unfold p1 b1
    have e : (r + 256 * q) / 2 = (r / 2 + 128 * (q % 2)) + 256 * (q / 2) := by omega
    rw [e, and_step (q / 2) _ _ 85 (by omega) (by omega) rfl rfl, and_step q r _ 85 hr hq rfl rfl, byte1 _ r (Nat.mod_lt _ (by omega)) hr]
    omega
theorem p2_val : ∀ l : List Nat, l.length ≤ 8 → (∀ r ∈ l, r < 256) → p2 (val8 l) = val8 (l.map b2) := by
  intro l
  induction l with
  | nil => intro _ _; rfl
  | cons r l ih =>
    intro hk h
    have hr := h r List.mem_cons_self
    have hl : ∀ r ∈ l, r < 256 := fun r hr => h r (List.mem_cons_of_mem _ hr)
    have ih := ih (by simp at hk; omega) hl
    have hq : val8 l < 2 ^ 56 := val8_lt l 7 (by simp at hk; omega) hl
    rw [List.map_cons, val8, val8, ← ih]
    generalize val8 l = q at hq
    unfold p2 b2
    have e : (r + 256 * q) / 4 = (r / 4 + 64 * (q % 4)) + 256 * (q / 4) := by omega
    rw [e, and_step (q / 4) _ _ 51 (by omega) (by omega) rfl rfl, and_step q r _ 51 hr hq rfl rfl, byte2 _ r (Nat.mod_lt _ (by omega)) hr]
    omega
theorem p3_val : ∀ l : List Nat, l.length ≤ 8 → (∀ r ∈ l, r < 256 ∧ r % 16 ≤ 4 ∧ r / 16 ≤ 4) → p3 (val8 l) = val8 (l.map b3) := by
  intro l
  induction l with
  | nil => intro _ _; rfl
  | cons r l ih =>
    intro hk h
    obtain ⟨hr, hr1, hr2⟩ := h r List.mem_cons_self
    have hl : ∀ r ∈ l, r < 256 ∧ r % 16 ≤ 4 ∧ r / 16 ≤ 4 := fun r hr => h r (List.mem_cons_of_mem _ hr)
    have ih := ih (by simp at hk; omega) hl
    have hq : val8 l < 2 ^ 48 ∨ ∃ s l', l = s :: l' := by
      cases l with
      | nil => left; decide
      | cons s l' => exact .inr ⟨s, l', rfl⟩
    have hq2 : val8 l % 16 ≤ 4 := by
      cases l with
      | nil => decide
      | cons s l' =>
        have := (hl s List.mem_cons_self).2.1
        rw [val8]
        omega
    have hb : val8 l ≤ 68 * ((2 ^ 56 - 1) / 255) := by
      have : ∀ (l : List Nat) (k : Nat), l.length ≤ k → (∀ r ∈ l, r < 256 ∧ r % 16 ≤ 4 ∧ r / 16 ≤ 4) → 255 * val8 l ≤ 68 * (2 ^ (8 * k) - 1) := by
        intro l
        induction l with
        | nil => intro k _ _; exact Nat.zero_le _
        | cons s l il =>
          intro k hk h
          cases k with
          | zero => simp at hk
          | succ k =>
            have h1 := il k (by simp at hk; omega) (fun r hr => h r (List.mem_cons_of_mem _ hr))
            have h2 := h s List.mem_cons_self
            have h3 := Nat.two_pow_pos (8 * k)
            rw [val8, show 8 * (k + 1) = 8 * k + 8 by omega, Nat.pow_add]
            omega
      have := this l 7 (by simp at hk; omega) hl
      simp only [Nat.reduceMul, Nat.reducePow, Nat.reduceSub, Nat.reduceDiv] at this ⊢
      omega
    rw [List.map_cons, val8, val8, ← ih]
    generalize val8 l = q at hq2 hb
    simp only [Nat.reduceMul, Nat.reducePow, Nat.reduceSub, Nat.reduceDiv] at hb
    unfold p3
    have e : (r + 256 * q) / 16 + (r + 256 * q) = (r / 16 + 16 * (q % 16) + r) + 256 * (q / 16 + q) := by omega
    rw [e, and_step (q / 16 + q) _ _ 15 (by omega) (by simp only [Nat.reducePow]; omega) rfl rfl, byte3 _ r (by omega) hr hr1 hr2]
def fold8 (m : Nat) : Nat := (m + m / 256 + (m + m / 256) / 65536 + (m + m / 256 + (m + m / 256) / 65536) / 4294967296) % 128
theorem bytes_of (m : Nat) (h : m < 2 ^ 64) : ∃ l : List Nat, l.length = 8 ∧ (∀ r ∈ l, r < 256) ∧ m = val8 l := by
  refine ⟨[m % 256, m / 256 % 256, m / 65536 % 256, m / 16777216 % 256, m / 4294967296 % 256, m / 1099511627776 % 256, m / 281474976710656 % 256, m / 72057594037927936 % 256], rfl, ?_, ?_⟩
  · intro r hr
    simp only [List.mem_cons, List.not_mem_nil, or_false] at hr
    rcases hr with rfl | rfl | rfl | rfl | rfl | rfl | rfl | rfl <;> exact Nat.mod_lt _ (by omega)
  · simp only [val8]
    simp only [Nat.reducePow] at h
    omega
theorem cnt_val : ∀ (l : List Nat), (∀ r ∈ l, r < 256) → ((List.range (8 * l.length)).filter (fun i => (val8 l).testBit i)).length = (l.map (fun r => b3 (b2 (b1 r)))).sum := by
  intro l
  induction l with
  | nil => intro _; rfl
  | cons r l ih =>
    intro h
    have hr := h r List.mem_cons_self
    have ih := ih (fun r hr => h r (List.mem_cons_of_mem _ hr))
    rw [List.map_cons, List.sum_cons, ← ih, (byte_all r hr).2.2.2.2.1, List.length_cons, show 8 * (l.length + 1) = 8 + 8 * l.length by omega, List.range_add, List.filter_append, List.length_append, List.filter_map, List.length_map]
    congr 1
    · congr 1
      refine List.filter_congr fun i hi => ?_
      have hi := List.mem_range.1 hi
      rw [val8, show r + 256 * val8 l = 2 ^ 8 * val8 l + r by omega, Nat.testBit_two_pow_mul_add _ hr, if_pos hi]
    · congr 1
      refine List.filter_congr fun i hi => ?_
      show (val8 (r :: l)).testBit (8 + i) = (val8 l).testBit i
      rw [val8, show r + 256 * val8 l = 2 ^ 8 * val8 l + r by omega, Nat.testBit_two_pow_mul_add _ hr, if_neg (by omega), Nat.add_sub_cancel_left]
theorem fold_sum {c0 c1 c2 c3 c4 c5 c6 c7 : Nat} (h0 : c0 ≤ 8) (h1 : c1 ≤ 8) (h2 : c2 ≤ 8) (h3 : c3 ≤ 8) (h4 : c4 ≤ 8) (h5 : c5 ≤ 8) (h6 : c6 ≤ 8) (h7 : c7 ≤ 8) :
    fold8 (c0 + 256 * (c1 + 256 * (c2 + 256 * (c3 + 256 * (c4 + 256 * (c5 + 256 * (c6 + 256 * (c7 + 256 * 0)))))))) = c0 + (c1 + (c2 + (c3 + (c4 + (c5 + (c6 + (c7 + 0))))))) := by
  obtain ⟨k7, e7⟩ : ∃ k, k = c7 + 256 * 0 := ⟨_, rfl⟩
  rw [← e7]
  obtain ⟨k6, e6⟩ : ∃ k, k = c6 + 256 * k7 := ⟨_, rfl⟩
  rw [← e6]
  obtain ⟨k5, e5⟩ : ∃ k, k = c5 + 256 * k6 := ⟨_, rfl⟩
  rw [← e5]
  obtain ⟨k4, e4⟩ : ∃ k, k = c4 + 256 * k5 := ⟨_, rfl⟩
  rw [← e4]
  obtain ⟨k3, e3⟩ : ∃ k, k = c3 + 256 * k4 := ⟨_, rfl⟩
  rw [← e3]
  obtain ⟨k2, e2⟩ : ∃ k, k = c2 + 256 * k3 := ⟨_, rfl⟩
  rw [← e2]
  obtain ⟨k1, e1⟩ : ∃ k, k = c1 + 256 * k2 := ⟨_, rfl⟩
  rw [← e1]
  obtain ⟨m, e0⟩ : ∃ k, k = c0 + 256 * k1 := ⟨_, rfl⟩
  rw [← e0]
  unfold fold8
  have d1 : m / 256 = k1 := by omega
  rw [d1]
  have f1 : m + k1 = (c0 + c1 + 256 * (c1 + c2)) + 65536 * (k2 + k3) := by omega
  have d2 : (m + k1) / 65536 = k2 + k3 := by rw [f1]; omega
  rw [d2]
  have f2 : m = c0 + 256 * c1 + 65536 * c2 + 16777216 * c3 + 4294967296 * k4 := by omega
  have f3 : k1 = c1 + 256 * c2 + 65536 * c3 + 16777216 * c4 + 4294967296 * k5 := by omega
  have f4 : k2 = c2 + 256 * c3 + 65536 * c4 + 16777216 * c5 + 4294967296 * k6 := by omega
  have f5 : k3 = c3 + 256 * c4 + 65536 * c5 + 16777216 * c6 + 4294967296 * k7 := by omega
  have d3 : (m + k1 + (k2 + k3)) / 4294967296 = k4 + k5 + k6 + k7 := by
    clear e0 e1 e2 e3 e4 e5 e6 e7 f1 d1 d2
    omega
  rw [d3]
  clear f1 f2 f3 f4 f5 d1 d2 d3
  omega
theorem ones_all (m : Nat) (h : m < 2 ^ 64) : p1 m < 2 ^ 64 ∧ p2 (p1 m) < 2 ^ 63 ∧ p3 (p2 (p1 m)) < 2 ^ 60 ∧ fold8 (p3 (p2 (p1 m))) = cnt m := by
  obtain ⟨l, hl, hb, rfl⟩ := bytes_of m h
  have hb1 : ∀ r ∈ l.map b1, r < 256 := fun r hr => by obtain ⟨s, hs, rfl⟩ := List.mem_map.1 hr; exact (byte_all s (hb s hs)).1
  have hb2 : ∀ r ∈ (l.map b1).map b2, r < 256 ∧ r % 16 ≤ 4 ∧ r / 16 ≤ 4 := fun r hr => by
    obtain ⟨u, hu, rfl⟩ := List.mem_map.1 hr
    obtain ⟨s, hs, rfl⟩ := List.mem_map.1 hu
    have := byte_all s (hb s hs)
    exact ⟨this.2.1, this.2.2.1, this.2.2.2.1⟩
  rw [p1_val l (by omega) hb, p2_val _ (by simp; omega) hb1, p3_val _ (by simp; omega) hb2]
  have hc := cnt_val l hb
  have hall : ∀ r ∈ l, b3 (b2 (b1 r)) ≤ 8 := fun r hr => (byte_all r (hb r hr)).2.2.2.2.2
  rw [hl] at hc
  unfold cnt
  rw [show (64 : Nat) = 8 * 8 from rfl, hc]
  refine ⟨?_, ?_, ?_, ?_⟩
  · exact val8_lt _ 8 (by simp; omega) hb1
  · match l, hl with
    | [r0, r1, r2, r3, r4, r5, r6, r7], _ =>
      simp only [List.map_cons, List.map_nil, val8]
      have h7 := hb2 (b2 (b1 r7)) (by simp)
      have h6 := hb2 (b2 (b1 r6)) (by simp)
      have h5 := hb2 (b2 (b1 r5)) (by simp)
      have h4 := hb2 (b2 (b1 r4)) (by simp)
      have h3 := hb2 (b2 (b1 r3)) (by simp)
      have h2 := hb2 (b2 (b1 r2)) (by simp)
      have h1 := hb2 (b2 (b1 r1)) (by simp)
      have h0 := hb2 (b2 (b1 r0)) (by simp)
      omega
  · match l, hl with
    | [r0, r1, r2, r3, r4, r5, r6, r7], _ =>
      simp only [List.map_cons, List.map_nil, val8]
      have h7 := hall r7 (by simp); have h6 := hall r6 (by simp); have h5 := hall r5 (by simp); have h4 := hall r4 (by simp)
      have h3 := hall r3 (by simp); have h2 := hall r2 (by simp); have h1 := hall r1 (by simp); have h0 := hall r0 (by simp)
      omega
  · match l, hl with
    | [r0, r1, r2, r3, r4, r5, r6, r7], _ =>
      simp only [List.map_cons, List.map_nil, val8, List.sum_cons, List.sum_nil]
      have h7 := hall r7 (by simp); have h6 := hall r6 (by simp); have h5 := hall r5 (by simp); have h4 := hall r4 (by simp)
      have h3 := hall r3 (by simp); have h2 := hall r2 (by simp); have h1 := hall r1 (by simp); have h0 := hall r0 (by simp)
      generalize b3 (b2 (b1 r0)) = c0 at *
      generalize b3 (b2 (b1 r1)) = c1 at *
      generalize b3 (b2 (b1 r2)) = c2 at *
      generalize b3 (b2 (b1 r3)) = c3 at *
      generalize b3 (b2 (b1 r4)) = c4 at *
      generalize b3 (b2 (b1 r5)) = c5 at *
      generalize b3 (b2 (b1 r6)) = c6 at *
      generalize b3 (b2 (b1 r7)) = c7 at *
      clear hb hb1 hb2 hall hc h
      exact fold_sum h0 h1 h2 h3 h4 h5 h6 h7
end Go.Proofs.Ytbdkogccjnmfoaa
