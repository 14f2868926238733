import Derived.Test.YtgidgmgpgfonnaaGreatKStB
/- Stable orders of lists, plainly. -/
namespace Go.Proofs.YtgidgmgpgfonnaaGreat
/-- A strict weak order. -/
structure Swo {α : Type} (lt : α → α → Bool) : Prop where
  irr : ∀ x, lt x x = false
  tr : ∀ x y z, lt x y = true → lt y z = true → lt x z = true
  neg : ∀ x y z, lt x z = true → lt x y = true ∨ lt y z = true
section
variable {α : Type} {lt : α → α → Bool}
theorem Swo.asy (h : Swo lt) {x y : α} (hx : lt x y = true) : lt y x = false := by
  cases hy : lt y x with
  | false => rfl
  | true => have := h.tr _ _ _ hx hy; rw [h.irr] at this; cases this
/-- Not above: x may stand ahead of y. -/
def Le (lt : α → α → Bool) (x y : α) : Prop := lt y x = false
theorem Swo.le_trans (h : Swo lt) {x y z : α} (h1 : Le lt x y) (h2 : Le lt y z) : Le lt x z := by
  unfold Le at *
  cases hz : lt z x with
  | false => rfl
  | true =>
    rcases h.neg z y x hz with h3 | h3
    · rw [h2] at h3; cases h3
    · rw [h1] at h3; cases h3
theorem Swo.lt_le (h : Swo lt) {x y z : α} (h1 : lt x y = true) (h2 : Le lt y z) : lt x z = true := by
  rcases h.neg x z y h1 with h3 | h3
  · exact h3
  · unfold Le at h2; rw [h2] at h3; cases h3
theorem Swo.le_lt (h : Swo lt) {x y z : α} (h1 : Le lt x y) (h2 : lt y z = true) : lt x z = true := by
  rcases h.neg y x z h2 with h3 | h3
  · unfold Le at h1; rw [h1] at h3; cases h3
  · exact h3
def Sd (lt : α → α → Bool) (l : List α) : Prop := l.Pairwise (Le lt)
/-- Of one kind. -/
def eqv (lt : α → α → Bool) (z x : α) : Bool := !lt z x && !lt x z
/-- Of each kind the same, as they came. -/
def Stb (lt : α → α → Bool) (l r : List α) : Prop := l.Perm r ∧ ∀ z, l.filter (eqv lt z) = r.filter (eqv lt z)
theorem Stb.refl (l : List α) : Stb lt l l := ⟨.refl _, fun _ => rfl⟩
theorem Stb.trans {a b c : List α} (h : Stb lt a b) (k : Stb lt b c) : Stb lt a c := ⟨h.1.trans k.1, fun z => (h.2 z).trans (k.2 z)⟩
theorem Stb.app {a b c d : List α} (h : Stb lt a b) (k : Stb lt c d) : Stb lt (a ++ c) (b ++ d) := ⟨h.1.append k.1, fun z => by rw [List.filter_append, List.filter_append, h.2, k.2]⟩
theorem Stb.mem {a b : List α} (h : Stb lt a b) {x : α} : x ∈ a ↔ x ∈ b := h.1.mem_iff
theorem Stb.len {a b : List α} (h : Stb lt a b) : a.length = b.length := h.1.length_eq
/-- Two stretches of which none of the one is of a kind with one of the other. -/
theorem stb_swap (hO : Swo lt) (a b : List α) (h : ∀ x ∈ a, ∀ y ∈ b, lt y x = true) : Stb lt (a ++ b) (b ++ a) := by
  refine ⟨List.perm_append_comm, fun z => ?_⟩
  rw [List.filter_append, List.filter_append]
  by_cases ha : ∃ x ∈ a, eqv lt z x = true
  · obtain ⟨x, hx, hzx⟩ := ha
    have hb : b.filter (eqv lt z) = [] := by
      refine List.filter_eq_nil_iff.2 fun y hy hzy => ?_
      have h1 := h x hx y hy
      unfold eqv at hzx hzy
      simp only [Bool.and_eq_true, Bool.not_eq_true'] at hzx hzy
      have h2 : lt z x = true := hO.le_lt (x := z) (y := y) (z := x) hzy.2 h1
      rw [hzx.1] at h2
      cases h2
    rw [hb, List.append_nil, List.nil_append]
  · have hb : a.filter (eqv lt z) = [] := List.filter_eq_nil_iff.2 fun x hx hzx => ha ⟨x, hx, hzx⟩
    rw [hb, List.append_nil, List.nil_append]
theorem sd_app {a b : List α} (ha : Sd lt a) (hb : Sd lt b) (h : ∀ x ∈ a, ∀ y ∈ b, Le lt x y) : Sd lt (a ++ b) := List.pairwise_append.2 ⟨ha, hb, h⟩
theorem sd_parts {a b : List α} (h : Sd lt (a ++ b)) : Sd lt a ∧ Sd lt b ∧ ∀ x ∈ a, ∀ y ∈ b, Le lt x y := List.pairwise_append.1 h
/-- One thing put into a row in order: behind all that are not above it. -/
theorem put_in (hO : Swo lt) (a b : List α) (y : α) (hs : Sd lt (a ++ b)) (ha : ∀ x ∈ a, Le lt x y) (hb : ∀ x ∈ b, lt y x = true) : Sd lt (a ++ y :: b) ∧ Stb lt (a ++ b ++ [y]) (a ++ y :: b) := by
  obtain ⟨h1, h2, h3⟩ := sd_parts hs
  refine ⟨sd_app h1 (List.pairwise_cons.2 ⟨fun x hx => hO.asy (hb x hx), h2⟩) ?_, ?_⟩
  · intro x hx z hz
    rcases List.mem_cons.1 hz with rfl | hz
    · exact ha x hx
    · exact h3 x hx z hz
  · rw [List.append_assoc]
    exact (Stb.refl a).app (stb_swap hO b [y] (fun x hx z hz => by rw [List.mem_singleton.1 hz]; exact hb x hx))
/-- One thing put into a row in order: ahead of all that are not below it. -/
theorem put_ahead (hO : Swo lt) (a b : List α) (y : α) (hs : Sd lt (a ++ b)) (ha : ∀ x ∈ a, lt x y = true) (hb : ∀ x ∈ b, Le lt y x) : Sd lt (a ++ y :: b) ∧ Stb lt (y :: (a ++ b)) (a ++ y :: b) := by
  obtain ⟨h1, h2, h3⟩ := sd_parts hs
  refine ⟨sd_app h1 (List.pairwise_cons.2 ⟨hb, h2⟩) ?_, ?_⟩
  · intro x hx z hz
    rcases List.mem_cons.1 hz with rfl | hz
    · exact hO.asy (ha x hx)
    · exact h3 x hx z hz
  · have h := (stb_swap hO [y] a (fun x hx z hz => by rw [List.mem_singleton.1 hx]; exact ha z hz)).app (Stb.refl (lt := lt) b)
    simpa using h
/-- What the turning of two stretches does. -/
theorem turned (hO : Swo lt) (a1 a2 b1 b2 : List α) (ha : Sd lt (a1 ++ a2)) (hb : Sd lt (b1 ++ b2)) (h1 : ∀ x ∈ a2, ∀ y ∈ b1, lt y x = true) (h2 : ∀ x ∈ a1, ∀ y ∈ b2, Le lt x y) :
    Stb lt (a1 ++ a2 ++ (b1 ++ b2)) (a1 ++ b1 ++ (a2 ++ b2)) ∧ ∀ x ∈ a1 ++ b1, ∀ y ∈ a2 ++ b2, Le lt x y := by
  obtain ⟨_, _, ka⟩ := sd_parts ha
  obtain ⟨_, _, kb⟩ := sd_parts hb
  constructor
  · have h := ((Stb.refl (lt := lt) a1).app (stb_swap hO a2 b1 h1)).app (Stb.refl (lt := lt) b2)
    simpa [List.append_assoc] using h
  · intro x hx y hy
    rcases List.mem_append.1 hx with hx | hx <;> rcases List.mem_append.1 hy with hy | hy
    · exact ka x hx y hy
    · exact h2 x hx y hy
    · exact hO.asy (h1 y hy x hx)
    · exact kb x hx y hy
/-- Both halves put in order make the whole in order. -/
theorem halves {l c1 c2 d1 d2 : List α} (h : Stb lt l (c1 ++ c2)) (h1 : Stb lt c1 d1) (h2 : Stb lt c2 d2) (s1 : Sd lt d1) (s2 : Sd lt d2) (hle : ∀ x ∈ c1, ∀ y ∈ c2, Le lt x y) : Sd lt (d1 ++ d2) ∧ Stb lt l (d1 ++ d2) :=
  ⟨sd_app s1 s2 fun x hx y hy => hle x (h1.mem.2 hx) y (h2.mem.2 hy), h.trans (h1.app h2)⟩
theorem sd_at {l : List α} (h : Sd lt l) {i j : Nat} (hi : i < l.length) (hj : j < l.length) (hij : i ≤ j) (hO : Swo lt) : Le lt l[i] l[j] := by
  rcases Nat.lt_or_eq_of_le hij with hij | rfl
  · exact List.pairwise_iff_getElem.1 h i j hi hj hij
  · exact hO.irr _
end
end Go.Proofs.YtgidgmgpgfonnaaGreat
