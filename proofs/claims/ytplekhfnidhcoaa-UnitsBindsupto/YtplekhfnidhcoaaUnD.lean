/- Binds to constants, in memory; the document's Same of them. -/
import Derived.Test.YtplekhfnidhcoaaUnB
namespace Go.Proofs.Ytplekhfnidhcoaa
open Go.RowKit Go.Shelf Go.Deep

/-- A bind's cells. -/
def blC (x : Bl) : List Value := [.string x.1, .string ⟨#[]⟩, .int .i64 x.2, .slice none 0 0]
def blAll (l : List Bl) : List Value := l.flatMap blC
/-- One bind, at a place. -/
structure LfAt (w : World) (b o : Nat) (x : Bl) : Prop where
  var : w.cell? ⟨b, o, none⟩ = some (.string x.1)
  name : w.cell? ⟨b, o + 1, none⟩ = some (.string ⟨#[]⟩)
  sym : w.cell? ⟨b, o + 2, none⟩ = some (.int .i64 x.2)
  list : w.cell? ⟨b, o + 3, none⟩ = some (.slice none 0 0)
theorem LfAt.below {w w' : World} {b o : Nat} {x : Bl} (h : LfAt w b o x) (hb : Below w.heap.size w w') : LfAt w' b o x :=
  ⟨below_cell hb _ _ h.var, below_cell hb _ _ h.name, below_cell hb _ _ h.sym, below_cell hb _ _ h.list⟩
/-- A row of binds. -/
structure BlAt (w : World) (p : Option Addr) (l : List Bl) : Prop where
  small : l.length ≤ maxLen
  cells : ∀ i (_ : i < l.length), ∃ b off, p = some ⟨b, off, none⟩ ∧ LfAt w b (off + i * 4) l[i]
theorem BlAt.below {w w' : World} {p : Option Addr} {l : List Bl} (h : BlAt w p l) (hb : Below w.heap.size w w') : BlAt w' p l :=
  ⟨h.small, fun i hi => let ⟨b, off, h1, h2⟩ := h.cells i hi; ⟨b, off, h1, h2.below hb⟩⟩
theorem blAt_nil (w : World) (p : Option Addr) : BlAt w p [] := ⟨Nat.zero_le _, fun i hi => absurd hi (by simp)⟩
theorem blAll_len (l : List Bl) : (blAll l).length = l.length * 4 := by
  induction l with
  | nil => rfl
  | cons x l ih => simp only [blAll, List.flatMap_cons, List.length_append, List.length_cons] at ih ⊢; rw [ih]; simp only [blC, List.length_cons, List.length_nil]; omega
theorem blAll_one (l : List Bl) : ∀ u ∈ blAll l, u.oneCell' = true := by
  intro u hu
  obtain ⟨x, _, hx⟩ := List.mem_flatMap.1 hu
  simp only [blC, List.mem_cons, List.not_mem_nil, or_false] at hx
  rcases hx with rfl | rfl | rfl | rfl <;> rfl
theorem blAll_snoc (l : List Bl) (x : Bl) : blAll (l ++ [x]) = blAll l ++ blC x := by simp [blAll]
theorem blAll_cons (x : Bl) (l : List Bl) : blAll (x :: l) = blC x ++ blAll l := by simp [blAll]
theorem blAll_get : ∀ (l : List Bl) (i k : Nat) (h : i < l.length), k < 4 → (blAll l)[i * 4 + k]? = (blC l[i])[k]?
  | x :: l, 0, k, _, hk => by rw [blAll_cons, Nat.zero_mul, Nat.zero_add, List.getElem?_append_left (by simpa [blC] using hk)]; rfl
  | x :: l, i + 1, k, h, hk => by
    rw [blAll_cons, List.getElem?_append_right (by simp [blC]; omega)]
    have e : (i + 1) * 4 + k - (blC x).length = i * 4 + k := by simp [blC]; omega
    rw [e, blAll_get l i k (by simpa using h) hk]
    rfl
theorem lf_of {w : World} {b o : Nat} {l : List Bl} (i : Nat) (hi : i < l.length) (h : ∀ j u, (blAll l)[j]? = some u → w.cell? ⟨b, o + j, none⟩ = some u) : LfAt w b (o + i * 4) l[i] :=
  ⟨by have := h (i * 4 + 0) _ (blAll_get l i 0 hi (by omega)); exact this, by have := h (i * 4 + 1) _ (blAll_get l i 1 hi (by omega)); rw [Nat.add_assoc]; exact this,
   by have := h (i * 4 + 2) _ (blAll_get l i 2 hi (by omega)); rw [Nat.add_assoc]; exact this, by have := h (i * 4 + 3) _ (blAll_get l i 3 hi (by omega)); rw [Nat.add_assoc]; exact this⟩
/-- A row of binds that a call has made. -/
def BOwn (w : World) (base : Nat) (v : Value) (l : List Bl) : Prop := w.ownsRow base 44 4 v l.length (blAll l)
theorem BOwn.form {w : World} {base : Nat} {v : Value} {l : List Bl} (h : BOwn w base v l) : ∃ p c, v = .slice p l.length c := by
  rcases h.2 with ⟨h1, h2⟩ | ⟨g, cap, cur, h1, _⟩
  · rw [h2]; exact ⟨_, _, h1⟩
  · exact ⟨_, _, h1⟩
theorem BOwn.rd {w : World} {base : Nat} {p : Option Addr} {n c : Nat} {l : List Bl} (h : BOwn w base (.slice p n c) l) (hs : l.length ≤ maxLen) : BlAt w p l := by
  refine ⟨hs, fun i hi => ?_⟩
  obtain ⟨p', c', e⟩ := h.form
  injection e with e1 e2 e3
  subst e2
  rcases h.2 with ⟨_, h2⟩ | ⟨g, cap, cur, h1, _⟩
  · omega
  · injection h1 with e4 e5 e6
    subst e4 e6
    exact ⟨g, 0, rfl, lf_of i hi (owns_at h)⟩
/-- What Compare says of two constants. -/
def cmpI (x y : Int) : Int := if x < y then -1 else if y < x then 1 else 0
theorem cmpI_zero {x y : Int} : (cmpI x y == 0) = decide (x = y) := by
  unfold cmpI
  by_cases h : x < y
  · rw [if_pos h]; have : ¬ x = y := by omega
    simp [this]
  · rw [if_neg h]
    by_cases h2 : y < x
    · rw [if_pos h2]; have : ¬ x = y := by omega
      simp [this]
    · rw [if_neg h2]; have : x = y := by omega
      simp [this]
theorem box2 (w : World) (s t : Int) : let W := (w.alloc (.cells #[.string ⟨#[]⟩, .int .i64 s, .slice none 0 0] 26)).alloc (.cells #[.string ⟨#[]⟩, .int .i64 t, .slice none 0 0] 26)
    Box W w.heap.size 26 #[.string ⟨#[]⟩, .int .i64 s, .slice none 0 0] ∧ Box W (w.heap.size + 1) 26 #[.string ⟨#[]⟩, .int .i64 t, .slice none 0 0] ∧ Below w.heap.size w W := by
  refine ⟨(Box.new w 26 _).over _, ?_, ((Below.refl _ w).alloc (Nat.le_refl _) _).alloc (by simp) _⟩
  have := Box.new (w.alloc (.cells #[.string ⟨#[]⟩, .int .i64 s, .slice none 0 0] 26)) 26 #[.string ⟨#[]⟩, .int .i64 t, .slice none 0 0]
  rwa [World.size_alloc] at this
set_option maxRecDepth 100000 in
set_option maxHeartbeats 2000000 in
theorem rcmp_leaf (s t : Int) (w : World) : Calls Try.prog 45 #[.agg #[.string ⟨#[]⟩, .int .i64 s, .slice none 0 0], .agg #[.string ⟨#[]⟩, .int .i64 t, .slice none 0 0]] w fun e w' => e = .returned (.int .i64 (cmpI s t)) ∧ Below w.heap.size w w' := by
  obtain ⟨hx, hy, hb⟩ := box2 w s t
  have x0 : _ = some _ := hx.c 0; have x1 : _ = some _ := hx.c 1; have x2 : _ = some _ := hx.c 2
  have y0 : _ = some _ := hy.c 0; have y1 : _ = some _ := hy.c 1; have y2 : _ = some _ := hy.c 2
  have HB := hid hb
  clear hx hy hb
  by_cases h1 : s < t
  · have e : cmpI s t = -1 := by unfold cmpI; rw [if_pos h1]
    rw [e]
    have h2 : ¬ s = t := by omega
    have h3 : (s == t) = false := beq_eq_false_iff_ne.2 h2
    go_enter Try.func45, Try.ntmps45
    go_wp2
    go_ret
    exact ⟨rfl, HB.out⟩
  · by_cases h2 : t < s
    · have e : cmpI s t = 1 := by unfold cmpI; rw [if_neg h1, if_pos h2]
      rw [e]
      have h4 : ¬ s = t := by omega
      have h3 : (s == t) = false := beq_eq_false_iff_ne.2 h4
      go_enter Try.func45, Try.ntmps45
      go_wp2
      go_ret
      exact ⟨rfl, HB.out⟩
    · obtain rfl : s = t := by omega
      have e : cmpI s s = 0 := by unfold cmpI; rw [if_neg h1, if_neg h1]
      rw [e]
      go_enter Try.func45, Try.ntmps45
      go_wp2
      go_loopw [5] (fun iv wr => iv = .int .i64 0 ∧ wr = (w.alloc (.cells #[.string ⟨#[]⟩, .int .i64 s, .slice none 0 0] 26)).alloc (.cells #[.string ⟨#[]⟩, .int .i64 s, .slice none 0 0] 26)) (fun _ _ => 0)
      case atStart => exact ⟨rfl, rfl⟩
      case round =>
        obtain ⟨rfl, rfl⟩ := hrel
        go_wp2
        go_ret
        exact ⟨rfl, HB.out⟩
set_option maxRecDepth 100000 in
set_option maxHeartbeats 2000000 in
theorem rsame_leaf (s t : Int) (w : World) : Calls Try.prog 31 #[.agg #[.string ⟨#[]⟩, .int .i64 s, .slice none 0 0], .agg #[.string ⟨#[]⟩, .int .i64 t, .slice none 0 0]] w fun e w' => e = .returned (.bool (decide (s = t))) ∧ Below w.heap.size w w' := by
  obtain ⟨hx, hy, hb⟩ := box2 w s t
  have x0 : _ = some _ := hx.c 0; have x1 : _ = some _ := hx.c 1; have x2 : _ = some _ := hx.c 2
  have y0 : _ = some _ := hy.c 0; have y1 : _ = some _ := hy.c 1; have y2 : _ = some _ := hy.c 2
  have HB := hid hb
  have hz := cmpI_zero (x := s) (y := t)
  obtain ⟨R, hR⟩ : ∃ R, decide (s = t) = R := ⟨_, rfl⟩
  obtain ⟨C, hC⟩ : ∃ C, cmpI s t = C := ⟨_, rfl⟩
  have HCC := hid (rcmp_leaf s t)
  rw [hR] at hz ⊢
  rw [hC] at hz HCC
  clear hx hy hb hR hC
  go_enter Try.func31, Try.ntmps31
  go_wp2_with fail
  refine (HCC.out _).mono ?_
  rintro e w1 ⟨rfl, hb⟩
  have HL := hid (HB.out.trans (hb.mono HB.out.size))
  clear hb HCC x0 x1 x2 y0 y1 y2
  go_wp2
  go_ret
  exact ⟨rfl, HL.out⟩
end Go.Proofs.Ytplekhfnidhcoaa
