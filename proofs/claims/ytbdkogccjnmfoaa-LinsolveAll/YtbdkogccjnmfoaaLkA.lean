/- Plain: the minimal solutions as vectors; which vectors the document's walk finds; what tells a minimal one by its masks. -/
import Derived.Test.YtbdkogccjnmfoaaLjQ
namespace Go.Proofs.Ytbdkogccjnmfoaa

/-- The minimal solutions, as vectors. -/
def ML (a b : List Int) : List (List Int) := (res (pbOf a b) 13 root).map toI
/-- Nowhere above. -/
def belV (u v : List Int) : Bool := (List.zip u v).all (fun p => decide (p.1 ≤ p.2))
theorem belV_iff {u v : List Int} (h : u.length = v.length) : belV u v = true ↔ ∀ i, u.getD i 0 ≤ v.getD i 0 := by
  unfold belV
  rw [List.all_eq_true]
  constructor
  · intro k i
    by_cases hi : i < u.length
    · rw [getD_lt u i hi, getD_lt v i (by omega)]
      have hz : i < (List.zip u v).length := by rw [List.length_zip]; omega
      have := k _ (List.getElem_mem hz)
      rw [List.getElem_zip] at this
      simpa using this
    · rw [getD_ge u i (by omega), getD_ge v i (by omega)]
      exact Int.le_refl _
  · intro k p hp
    obtain ⟨i, hi, rfl⟩ := List.getElem_of_mem hp
    rw [List.getElem_zip]
    rw [List.length_zip] at hi
    have := k i
    rw [getD_lt u i (by omega), getD_lt v i (by omega)] at this
    simpa using this
theorem belV_refl (v : List Int) : belV v v = true := (belV_iff rfl).2 (fun _ => Int.le_refl _)
def sumI : List Int → Int
  | [] => 0
  | x :: l => x + sumI l
theorem sumI_append (l m : List Int) : sumI (l ++ m) = sumI l + sumI m := by
  induction l with
  | nil => show sumI m = 0 + sumI m; omega
  | cons x l ih => show x + sumI (l ++ m) = x + sumI l + sumI m; rw [ih]; omega
theorem sumI_nonneg : ∀ {l : List Int}, (∀ x ∈ l, 0 ≤ x) → 0 ≤ sumI l := by
  intro l
  induction l with
  | nil => intro _; exact Int.le_refl _
  | cons x l ih =>
    intro h
    have h1 := h x List.mem_cons_self
    have h2 := ih (fun y hy => h y (List.mem_cons_of_mem _ hy))
    show 0 ≤ x + sumI l
    omega
theorem sum_below : ∀ (u v : List Int), u.length = v.length → (∀ i, u.getD i 0 ≤ v.getD i 0) → u ≠ v → sumI u < sumI v := by
  have le : ∀ (u v : List Int), u.length = v.length → (∀ i, u.getD i 0 ≤ v.getD i 0) → sumI u ≤ sumI v := by
    intro u
    induction u with
    | nil => intro v h _; cases v with
      | nil => exact Int.le_refl _
      | cons => simp at h
    | cons x u ih =>
      intro v h k
      cases v with
      | nil => simp at h
      | cons y v =>
        have h1 := k 0
        have h2 := ih v (by simpa using h) (fun i => by have := k (i + 1); simpa using this)
        simp at h1
        show x + sumI u ≤ y + sumI v
        omega
  intro u
  induction u with
  | nil => intro v h _ hne; cases v with
    | nil => exact absurd rfl hne
    | cons => simp at h
  | cons x u ih =>
    intro v h k hne
    cases v with
    | nil => simp at h
    | cons y v =>
      have h1 := k 0
      have hk : ∀ i, u.getD i 0 ≤ v.getD i 0 := fun i => by have := k (i + 1); simpa using this
      simp at h1
      show x + sumI u < y + sumI v
      by_cases e : x = y
      · subst e
        have := ih v (by simpa using h) hk (fun e => hne (by rw [e]))
        omega
      · have := le u v (by simpa using h) hk
        omega
theorem sumI_tot (x : Nat → Nat) : ∀ n, sumI (toI ((List.range n).map x)) = ((tot x n : Nat) : Int) := by
  intro n
  induction n with
  | zero => rfl
  | succ n ih =>
    rw [List.range_succ, List.map_append]
    unfold toI at ih ⊢
    rw [List.map_append, sumI_append, ih]
    show ((tot x n : Nat) : Int) + ((x n : Int) + 0) = ((S (fun _ => 1) x (n + 1) : Nat) : Int)
    rw [S]
    unfold tot
    omega
/-- The greatest of some numbers. -/
def grt (l : List Int) : Int := l.foldl (fun n x => max n x) 0
theorem grt_from : ∀ (l : List Int) (n : Int), n ≤ l.foldl (fun n x => max n x) n ∧ ∀ x ∈ l, x ≤ l.foldl (fun n x => max n x) n := by
  intro l
  induction l with
  | nil => intro n; exact ⟨Int.le_refl _, fun x hx => by cases hx⟩
  | cons y l ih =>
    intro n
    obtain ⟨h1, h2⟩ := ih (max n y)
    refine ⟨Int.le_trans (Int.le_max_left n y) h1, fun x hx => ?_⟩
    rcases List.mem_cons.1 hx with rfl | h
    · exact Int.le_trans (Int.le_max_right n x) h1
    · exact h2 x h
theorem grt_le : ∀ (l : List Int) (n M : Int), n ≤ M → (∀ x ∈ l, x ≤ M) → l.foldl (fun n x => max n x) n ≤ M := by
  intro l
  induction l with
  | nil => intro n M h _; exact h
  | cons y l ih =>
    intro n M h k
    exact ih _ M (Int.max_le.2 ⟨h, k y List.mem_cons_self⟩) (fun x hx => k x (List.mem_cons_of_mem _ hx))
theorem grt_nonneg (l : List Int) : 0 ≤ grt l := (grt_from l 0).1
theorem grt_mem (l : List Int) (x : Int) (h : x ∈ l) : x ≤ grt l := (grt_from l 0).2 x h
theorem grt_six {l : List Int} (h : Coe l) : grt l ≤ 6 := grt_le l 0 6 (by decide) (fun x hx => (h x hx).2)
theorem pb_great {a b : List Int} (h0 : chkE a b = 0) (ha : 0 < a.length) (hb : 0 < b.length) : (pbOf a b).Ok (grt a).toNat (grt b).toNat where
  a1 := fun i hi => by
    have hi' : i < a.length := hi
    have h1 := ((pb_ok h0).a1 i hi).1
    refine ⟨h1, ?_⟩
    have h2 := grt_mem a a[i] (List.getElem_mem hi')
    show (a.getD i 0).toNat ≤ _
    rw [getD_lt a i hi']
    omega
  b1 := fun i hi => by
    have hi' : i < b.length := hi
    have h1 := ((pb_ok h0).b1 i hi).1
    refine ⟨h1, ?_⟩
    have h2 := grt_mem b b[i] (List.getElem_mem hi')
    show (b.getD i 0).toNat ≤ _
    rw [getD_lt b i hi']
    omega
  hA := by
    obtain ⟨_, _, k1, _⟩ := chk_zero h0
    have h1 := (coe_of k1).get 0 ha
    have h2 := grt_mem a a[0] (List.getElem_mem ha)
    omega
  hB := by
    obtain ⟨_, _, _, k2⟩ := chk_zero h0
    have h1 := (coe_of k2).get 0 hb
    have h2 := grt_mem b b[0] (List.getElem_mem hb)
    omega
theorem min_some {a b : List Int} {x y : Nat → Nat} (m : Min (pbOf a b) x y) : 0 < a.length ∧ 0 < b.length := by
  have h1 := m.pos; have h2 := m.eq
  constructor
  · rcases Nat.eq_zero_or_pos a.length with h | h
    · have e : (pbOf a b).n = 0 := h
      rw [e] at h1
      exact absurd h1 (Nat.lt_irrefl 0)
    · exact h
  · rcases Nat.eq_zero_or_pos b.length with h | h
    · have e : (pbOf a b).q = 0 := h
      rw [e] at h2
      rw [h2] at h1
      exact absurd h1 (Nat.lt_irrefl 0)
    · exact h
theorem ml_mem {a b : List Int} (h0 : chkE a b = 0) (v : List Int) : v ∈ ML a b ↔ ∃ x y, v = toI (tolds (pbOf a b) x y) ∧ Min (pbOf a b) x y := by
  unfold ML
  rw [List.mem_map]
  constructor
  · rintro ⟨u, hu, rfl⟩
    obtain ⟨x, y, rfl, m⟩ := ((search_all (pb_ok h0) (by omega) (by omega)).2.1 u).1 hu
    exact ⟨x, y, rfl, m⟩
  · rintro ⟨x, y, rfl, m⟩
    exact ⟨_, ((search_all (pb_ok h0) (by omega) (by omega)).2.1 _).2 ⟨x, y, rfl, m⟩, rfl⟩
theorem ml_nodup {a b : List Int} (h0 : chkE a b = 0) : (ML a b).Nodup := by
  unfold ML
  exact List.Pairwise.map _ (fun x y h e => h (toI_inj e)) (search_all (pb_ok h0) (by omega) (by omega)).1
theorem toI_append (l m : List Nat) : toI (l ++ m) = toI l ++ toI m := by unfold toI; rw [List.map_append]
/-- P9.3's bounds. -/
theorem ml_bound {a b : List Int} (h0 : chkE a b = 0) {v : List Int} (h : v ∈ ML a b) : sumI (v.take a.length) ≤ grt b ∧ sumI (v.drop a.length) ≤ grt a ∧ 1 ≤ sumI (v.take a.length) ∧ 1 ≤ sumI (v.drop a.length) := by
  obtain ⟨x, y, rfl, m⟩ := (ml_mem h0 v).1 h
  obtain ⟨ha, hb⟩ := min_some m
  obtain ⟨_, _, k1, k2⟩ := chk_zero h0
  have g1 := grt_six (coe_of k1); have g2 := grt_six (coe_of k2)
  have hbd := (search_all (pb_great h0 ha hb) (by omega) (by omega)).2.2 x y m
  have e1 : (toI (tolds (pbOf a b) x y)).take a.length = toI ((List.range (pbOf a b).n).map x) := by
    unfold tolds
    rw [toI_append, List.take_append_of_le_length (by rw [toI_len]; simp [pbOf])]
    rw [List.take_of_length_le (by rw [toI_len]; simp [pbOf])]
  have e2 : (toI (tolds (pbOf a b) x y)).drop a.length = toI ((List.range (pbOf a b).q).map y) := by
    unfold tolds
    rw [toI_append, List.drop_append_of_le_length (by rw [toI_len]; simp [pbOf])]
    rw [List.drop_of_length_le (by rw [toI_len]; simp [pbOf]), List.nil_append]
  rw [e1, e2, sumI_tot, sumI_tot]
  have n1 := grt_nonneg a; have n2 := grt_nonneg b
  have p1 := m.pos; have p2 := m.eq
  have t1 : 0 < tot x (pbOf a b).n := by
    have := S_tot (pbOf a b).a x 6 (pbOf a b).n (fun i hi => ((pb_ok h0).a1 i hi).2)
    omega
  have t2 : 0 < tot y (pbOf a b).q := by
    have := S_tot (pbOf a b).b y 6 (pbOf a b).q (fun i hi => ((pb_ok h0).b1 i hi).2)
    omega
  omega
theorem ml_sol {a b : List Int} (h0 : chkE a b = 0) {v : List Int} (h : v ∈ ML a b) : Sol a b (a.length + b.length) v := by
  obtain ⟨x, y, rfl, m⟩ := (ml_mem h0 v).1 h
  exact (min_sol h0 m).1
/-- A vector as counts. -/
def fx (a v : List Int) : Nat → Nat := fun i => if i < a.length then (v.getD i 0).toNat else 0
def fy (a b v : List Int) : Nat → Nat := fun i => if i < b.length then (v.getD (a.length + i) 0).toNat else 0
theorem told_fx {a b v : List Int} (hl : v.length = a.length + b.length) (hc : Cnt v) : toI (tolds (pbOf a b) (fx a v) (fy a b v)) = v := by
  refine List.ext_getElem? (fun i => ?_)
  have hlen : (toI (tolds (pbOf a b) (fx a v) (fy a b v))).length = v.length := by rw [toI_len, tolds_len, hl]; rfl
  by_cases hi : i < v.length
  · rw [List.getElem?_eq_getElem (by omega), List.getElem?_eq_getElem hi, ← getD_lt _ i (by omega), ← getD_lt v i hi]
    have hn : 0 ≤ v.getD i 0 := by rw [getD_lt v i hi]; exact (hc.get i hi).1
    by_cases h1 : i < a.length
    · rw [told_get1 (pbOf a b) _ _ i h1]
      unfold fx
      rw [if_pos h1]
      congr 1
      omega
    · have := told_get2 (pbOf a b) (fx a v) (fy a b v) (i - a.length) (show i - a.length < b.length by omega)
      rw [show (pbOf a b).n + (i - a.length) = i from (by show a.length + (i - a.length) = i; omega)] at this
      rw [this]
      unfold fy
      rw [if_pos (by omega), show a.length + (i - a.length) = i by omega]
      congr 1
      omega
  · rw [List.getElem?_eq_none (by omega), List.getElem?_eq_none (by omega)]
theorem S_fx {a b v : List Int} : S (pbOf a b).a (fx a v) (pbOf a b).n = S (pbOf a b).a (fun i => (v.getD i 0).toNat) (pbOf a b).n := S_ext _ _ (fun i hi => by unfold fx; exact if_pos hi)
theorem S_fy {a b v : List Int} : S (pbOf a b).b (fy a b v) (pbOf a b).q = S (pbOf a b).b (fun i => (v.getD (a.length + i) 0).toNat) (pbOf a b).q := S_ext _ _ (fun i hi => by unfold fy; exact if_pos hi)
theorem sol_S {a b v : List Int} (h0 : chkE a b = 0) (hs : Sol a b (a.length + b.length) v) : S (pbOf a b).a (fx a v) (pbOf a b).n = S (pbOf a b).b (fy a b v) (pbOf a b).q := by
  have := hs.2.2
  rw [gap_S h0 hs.2.1] at this
  rw [S_fx, S_fy]
  omega
theorem fx_S {a b v : List Int} (h0 : chkE a b = 0) (hc : Cnt v) : prodI a v = ((S (pbOf a b).a (fx a v) (pbOf a b).n : Nat) : Int) := by
  obtain ⟨_, _, k1, k2⟩ := chk_zero h0
  rw [prodI_S v hc a (coe_of k1), S_fx]
  rfl
/-- Below each solution that is not nothing there is a minimal one. -/
theorem ml_below {a b : List Int} (h0 : chkE a b = 0) {v : List Int} (hs : Sol a b (a.length + b.length) v) (hp : 0 < prodI a v) : ∃ u ∈ ML a b, belV u v = true := by
  have hp' : 0 < S (pbOf a b).a (fx a v) (pbOf a b).n := by rw [fx_S h0 hs.2.1] at hp; omega
  obtain ⟨x, y, m, hx, hy⟩ := exists_min (pbOf a b) _ (fx a v) (fy a b v) rfl (fun i hi => if_neg (Nat.not_lt.2 hi)) (fun i hi => if_neg (Nat.not_lt.2 hi)) (sol_S h0 hs) hp'
  have hsol := ml_sol h0 ((ml_mem h0 _).2 ⟨x, y, rfl, m⟩)
  refine ⟨_, (ml_mem h0 _).2 ⟨x, y, rfl, m⟩, (belV_iff (hsol.1.trans hs.1.symm)).2 (fun i => ?_)⟩
  have hl1 := hsol.1; have hl2 := hs.1
  by_cases hi : i < v.length
  · have hn : 0 ≤ v.getD i 0 := by rw [getD_lt v i hi]; exact (hs.2.1.get i hi).1
    by_cases h1 : i < a.length
    · rw [told_get1 (pbOf a b) _ _ i h1]
      have := hx i
      unfold fx at this
      rw [if_pos h1] at this
      omega
    · have e := told_get2 (pbOf a b) x y (i - a.length) (show i - a.length < b.length by omega)
      rw [show (pbOf a b).n + (i - a.length) = i from (by show a.length + (i - a.length) = i; omega)] at e
      rw [e]
      have := hy (i - a.length)
      unfold fy at this
      rw [if_pos (by omega), show a.length + (i - a.length) = i by omega] at this
      omega
  · rw [getD_ge _ i (by omega), getD_ge v i (by omega)]
    exact Int.le_refl _
/-- None is below another one. -/
theorem ml_least {a b : List Int} (h0 : chkE a b = 0) {u v : List Int} (hu : u ∈ ML a b) (hv : v ∈ ML a b) (hb : belV u v = true) : u = v := by
  have s1 := ml_sol h0 hu; have s2 := ml_sol h0 hv
  have hle := (belV_iff (s1.1.trans s2.1.symm)).1 hb
  obtain ⟨x, y, rfl, m⟩ := (ml_mem h0 u).1 hu
  obtain ⟨x', y', rfl, m'⟩ := (ml_mem h0 v).1 hv
  have hx : ∀ i, x i ≤ x' i := fun i => by
    by_cases hi : i < (pbOf a b).n
    · have := hle i
      rw [told_get1 _ _ _ i hi, told_get1 _ _ _ i hi] at this
      omega
    · rw [m.sx i (by omega)]; exact Nat.zero_le _
  have hy : ∀ i, y i ≤ y' i := fun i => by
    by_cases hi : i < (pbOf a b).q
    · have := hle ((pbOf a b).n + i)
      rw [told_get2 _ _ _ i hi, told_get2 _ _ _ i hi] at this
      omega
    · rw [m.sy i (by omega)]; exact Nat.zero_le _
  have hm := m'.least x y hx hy m.eq
  have p1 := m.pos; have e1 := m.eq; have e2 := m'.eq
  have ok := pb_ok h0
  have ex := S_same (pbOf a b).a (pbOf a b).n (fun i hi => (ok.a1 i hi).1) hx (by omega)
  have ey := S_same (pbOf a b).b (pbOf a b).q (fun i hi => (ok.b1 i hi).1) hy (by omega)
  unfold tolds
  congr 2
  · exact List.map_congr_left (fun i hi => ex i (List.mem_range.1 hi))
  · exact List.map_congr_left (fun i hi => ey i (List.mem_range.1 hi))
/-- A solution within the bounds is minimal just if its sides' masks have two bits in common. -/
theorem min_mask {a b : List Int} (h0 : chkE a b = 0) {v : List Int} (hs : Sol a b (a.length + b.length) v) {m k : Nat} (hm : Mask a.length (pbOf a b).a (fx a v) m) (hk : Mask b.length (pbOf a b).b (fy a b v) k) (hsx : S (pbOf a b).a (fx a v) a.length ≤ 36) : cnt (m &&& k) = 2 ↔ v ∈ ML a b := by
  have eq := sol_S h0 hs
  have e1 : (pbOf a b).n = a.length := rfl
  have e2 : (pbOf a b).q = b.length := rfl
  rw [e1, e2] at eq
  have hbit : ∀ s, (m &&& k).testBit s = true ↔ ∃ u w : Nat → Nat, (∀ i, u i ≤ fx a v i) ∧ (∀ i, w i ≤ fy a b v i) ∧ S (pbOf a b).a u a.length = s ∧ S (pbOf a b).b w b.length = s := fun s => by
    rw [Nat.testBit_and, Bool.and_eq_true, hm s, hk s]
    constructor
    · rintro ⟨⟨u, h1, h2⟩, ⟨w, h3, h4⟩⟩
      exact ⟨u, w, h1, h3, h2, h4⟩
    · rintro ⟨u, w, h1, h3, h2, h4⟩
      exact ⟨⟨u, h1, h2⟩, ⟨w, h3, h4⟩⟩
  have hb0 : (m &&& k).testBit 0 = true := (hbit 0).2 ⟨fun _ => 0, fun _ => 0, fun _ => Nat.zero_le _, fun _ => Nat.zero_le _, S_zero _ _, S_zero _ _⟩
  have hlt : m &&& k < 2 ^ 64 := Nat.lt_of_le_of_lt Nat.and_le_left (Nat.lt_of_lt_of_le (mask_lt hm) (Nat.pow_le_pow_right (by omega) (by omega)))
  rcases Nat.eq_zero_or_pos (S (pbOf a b).a (fx a v) a.length) with hz | hz
  · have h1 : (m &&& k) = 1 := (eq_one_iff hb0).2 fun s hs => by
      cases hb : (m &&& k).testBit s with
      | false => rfl
      | true =>
        obtain ⟨u, w, h1, h2, h3, h4⟩ := (hbit s).1 hb
        have := S_le (pbOf a b).a h1 a.length
        omega
    rw [h1]
    constructor
    · intro h; exact absurd h (by decide)
    · intro h
      obtain ⟨x, y, hv, mm⟩ := (ml_mem h0 v).1 h
      have hp := mm.pos
      have : S (pbOf a b).a (fx a v) (pbOf a b).n = S (pbOf a b).a x (pbOf a b).n := S_ext _ _ (fun i hi => by
        unfold fx
        rw [if_pos (show i < a.length from hi), hv, told_get1 _ _ _ i hi]
        omega)
      rw [e1] at this hp
      omega
  · have hW : (m &&& k).testBit (S (pbOf a b).a (fx a v) a.length) = true := (hbit _).2 ⟨fx a v, fy a b v, fun _ => Nat.le_refl _, fun _ => Nat.le_refl _, rfl, eq.symm⟩
    rw [cnt_two hb0 hW hz (by omega) hlt]
    constructor
    · intro h
      refine (ml_mem h0 v).2 ⟨fx a v, fy a b v, (told_fx hs.1 hs.2.1).symm, ⟨fun i hi => if_neg (Nat.not_lt.2 hi), fun i hi => if_neg (Nat.not_lt.2 hi), eq, hz, fun u w hu hw e => ?_⟩⟩
      exact h _ ((hbit _).2 ⟨u, w, hu, hw, rfl, e.symm⟩)
    · intro h s hb
      obtain ⟨x, y, hv, mm⟩ := (ml_mem h0 v).1 h
      obtain ⟨u, w, h1, h2, h3, h4⟩ := (hbit s).1 hb
      have hxx : ∀ i, fx a v i = x i := fun i => by
        unfold fx
        by_cases hi : i < a.length
        · rw [if_pos hi, hv, told_get1 _ _ _ i hi]; omega
        · rw [if_neg hi, mm.sx i (Nat.not_lt.1 hi)]
      have hyy : ∀ i, fy a b v i = y i := fun i => by
        unfold fy
        by_cases hi : i < b.length
        · have e := told_get2 (pbOf a b) x y i hi
          rw [e1] at e
          rw [if_pos hi, hv, e]; omega
        · rw [if_neg hi, mm.sy i (Nat.not_lt.1 hi)]
      have := mm.least u w (fun i => by rw [← hxx]; exact h1 i) (fun i => by rw [← hyy]; exact h2 i) (by rw [e1, e2]; omega)
      rw [e1] at this
      have e5 : S (pbOf a b).a (fx a v) a.length = S (pbOf a b).a x a.length := S_ext _ _ (fun i _ => hxx i)
      omega
end Go.Proofs.Ytbdkogccjnmfoaa
