/- Steps at their paths, and several of them, plainly. -/
import Derived.Test.YtokbgbbkopmngaaGreatDvP
namespace Go.Proofs.YtokbgbbkopmngaaGreat
open Go.RowKit Go.Deep

/-! ### how many nodes -/
theorem lay_sizes {ks xs : List Tn} {i m : Nat} : sizes (layL ks i m xs) + sizes ((ks.drop i).take m) = sizes ks + sizes xs := by
  unfold layL
  rw [sizes_append, sizes_append]
  conv => rhs; rw [lay_split (ks := ks) (i := i) (m := m), sizes_append, sizes_append]
  omega
theorem sizes_mem {k : Tn} : ∀ {l : List Tn}, k ∈ l → sizeT k ≤ sizes l
  | [], h => by cases h
  | t :: r, h => by
    rw [sizes_cons]
    rcases List.mem_cons.1 h with rfl | h
    · omega
    · have := sizes_mem h; omega
theorem flat_nodes {t t' : Tn} {p q : Sp} (h : flatN t p = some (t', q)) : sizeT t' ≤ sizeT t := by
  unfold flatN at h
  cases hy : (kidsL t.2)[p.at_.toNat]? with
  | none => rw [hy] at h; cases h
  | some y =>
    rw [hy] at h
    simp only at h
    by_cases hh : headed t.1.2 y = true
    · rw [if_pos hh] at h
      obtain ⟨rfl, rfl⟩ := Prod.mk.inj (Option.some.inj h)
      have h1 := lay_sizes (ks := kidsL t.2) (xs := kidsL y.2) (i := p.at_.toNat) (m := 1)
      rw [drop_take_one hy, sizes_cons, sizes_nil] at h1
      unfold sizeT at h1 ⊢
      simp only [nodes_mk]
      rw [nodes_sizes t.2]
      rw [nodes_sizes y.2] at h1
      omega
    · rw [if_neg hh] at h; cases h
theorem group_nodes {t t' : Tn} {p q : Sp} (h : groupN t p = some (t', q)) : sizeT t' ≤ sizeT t + 1 := by
  unfold groupN at h
  split at h
  · obtain ⟨rfl, rfl⟩ := Prod.mk.inj (Option.some.inj h)
    have h1 := lay_sizes (ks := kidsL t.2) (xs := [((noB, t.1.2), mkF (((kidsL t.2).drop p.at_.toNat).take p.many.toNat))]) (i := p.at_.toNat) (m := p.many.toNat)
    rw [sizes_cons, sizes_nil] at h1
    unfold sizeT at h1 ⊢
    simp only [nodes_mk] at h1 ⊢
    rw [nodes_sizes t.2]
    omega
  · cases h
theorem swap_nodes {t t' : Tn} {p q : Sp} (h : swapN t p = some (t', q)) : sizeT t' ≤ sizeT t := by
  unfold swapN at h
  cases hy : (kidsL t.2)[p.at_.toNat]? with
  | none => rw [hy] at h; cases h
  | some y =>
    cases hz : (kidsL t.2)[p.at_.toNat + 1]? with
    | none => rw [hy, hz] at h; cases h
    | some z =>
      rw [hy, hz] at h
      obtain ⟨rfl, rfl⟩ := Prod.mk.inj (Option.some.inj h)
      have h1 := lay_sizes (ks := kidsL t.2) (xs := [z, y]) (i := p.at_.toNat) (m := 2)
      rw [drop_take_two hy hz] at h1
      simp only [sizes_cons, sizes_nil] at h1
      unfold sizeT at h1 ⊢
      simp only [nodes_mk]
      rw [nodes_sizes t.2]
      omega
theorem drop_nodes {t t' : Tn} {u : Int} {p q : Sp} (h : dropN t u p = some (t', q)) : sizeT t' ≤ sizeT t := by
  unfold dropN at h
  cases hy : (kidsL t.2)[p.at_.toNat]? with
  | none => rw [hy] at h; cases h
  | some y =>
    rw [hy] at h
    simp only at h
    split at h
    · split at h
      · cases hz : (kidsL t.2)[1 - p.at_.toNat]? with
        | none => rw [hz] at h; cases h
        | some z =>
          rw [hz] at h
          obtain ⟨rfl, rfl⟩ := Prod.mk.inj (Option.some.inj h)
          have := sizes_mem (List.mem_of_getElem? hz)
          rw [← nodes_sizes] at this
          unfold sizeT at this ⊢
          omega
      · obtain ⟨rfl, rfl⟩ := Prod.mk.inj (Option.some.inj h)
        have h1 := lay_sizes (ks := kidsL t.2) (xs := []) (i := p.at_.toNat) (m := 1)
        rw [sizes_nil] at h1
        unfold sizeT
        simp only [nodes_mk]
        rw [nodes_sizes t.2]
        omega
    · cases h
theorem grow_nodes {S : Sg} {t t' : Tn} {p q : Sp} (h : growN S t p = some (t', q)) : sizeT t' ≤ sizeT t + 2 := by
  unfold growN at h
  cases hu : S.unit p.sym with
  | none => rw [hu] at h; cases h
  | some u =>
    rw [hu] at h
    simp only at h
    have hc : sizeT (constT u) = 1 := rfl
    split at h
    · split at h
      · obtain ⟨rfl, rfl⟩ := Prod.mk.inj (Option.some.inj h)
        have h1 := lay_sizes (ks := [t]) (xs := [constT u]) (i := p.at_.toNat) (m := 0)
        simp only [sizes_cons, sizes_nil, hc] at h1
        have : sizeT ((noB, p.sym), mkF (layL [t] p.at_.toNat 0 [constT u])) = sizes (layL [t] p.at_.toNat 0 [constT u]) + 1 := by unfold sizeT; simp only [nodes_mk]
        omega
      · cases h
    · split at h
      · split at h
        · obtain ⟨rfl, rfl⟩ := Prod.mk.inj (Option.some.inj h)
          have h1 := lay_sizes (ks := kidsL t.2) (xs := [constT u]) (i := p.at_.toNat) (m := 0)
          simp only [sizes_cons, sizes_nil, hc] at h1
          have : sizeT (t.1, mkF (layL (kidsL t.2) p.at_.toNat 0 [constT u])) = sizes (layL (kidsL t.2) p.at_.toNat 0 [constT u]) + 1 := by unfold sizeT; simp only [nodes_mk]
          have h2 : sizeT t = sizes (kidsL t.2) + 1 := by unfold sizeT; rw [nodes_sizes]
          omega
        · cases h
      · cases h
theorem stepN_nodes {S : Sg} {t t' : Tn} {p q : Sp} (h : stepN S t p = some (t', q)) : sizeT t' ≤ sizeT t + 2 := by
  unfold stepN at h
  split at h
  · exact grow_nodes h
  · split at h
    · split at h
      · have := flat_nodes h; omega
      · split at h
        · have := group_nodes h; omega
        · split at h
          · have := swap_nodes h; omega
          · split at h
            · split at h
              · have := drop_nodes h; omega
              · cases h
            · cases h
    · cases h

/-! ### at a path -/
theorem stepT_some {S : Sg} {t t' : Tn} {ps : List Int} {p q : Sp} (h : stepT S t ps p = some (t', q)) : ∃ n n', subT ps t = some n ∧ stepN S n p = some (n', q) ∧ putT n' ps t = some t' := by
  unfold stepT at h
  cases hs : subT ps t with
  | none => rw [hs] at h; cases h
  | some n =>
    rw [hs] at h
    simp only at h
    cases hn : stepN S n p with
    | none => rw [hn] at h; cases h
    | some r =>
      rw [hn] at h
      simp only at h
      cases hp : putT r.1 ps t with
      | none => rw [hp] at h; cases h
      | some y =>
        rw [hp] at h
        obtain ⟨rfl, rfl⟩ := Prod.mk.inj (Option.some.inj h)
        exact ⟨n, r.1, rfl, hn, hp⟩
theorem stepT_of {S : Sg} {t t' n n' : Tn} {ps : List Int} {p q : Sp} (h1 : subT ps t = some n) (h2 : stepN S n p = some (n', q)) (h3 : putT n' ps t = some t') : stepT S t ps p = some (t', q) := by
  unfold stepT
  rw [h1]; simp only; rw [h2]; simp only; rw [h3]; rfl
theorem stepT_nodes {S : Sg} {t t' : Tn} {ps : List Int} {p q : Sp} (h : stepT S t ps p = some (t', q)) : sizeT t' ≤ sizeT t + 2 := by
  obtain ⟨n, n', h1, h2, h3⟩ := stepT_some h
  have e1 := stepN_nodes h2
  have e2 := back_size n' ps t n t' h1 h3
  unfold sizeT at *
  omega
theorem put_twice (u v : Tn) : ∀ (ps : List Int) (t y : Tn), putT u ps t = some y → putT v ps y = putT v ps t
  | [], _, _, _ => rfl
  | i :: ps, t, y, h => by
    simp only [putT] at h
    cases hk : kidT i t.2 with
    | none => rw [hk] at h; cases h
    | some k =>
      rw [hk] at h
      simp only at h
      cases hp : putT u ps k with
      | none => rw [hp] at h; cases h
      | some k' =>
        rw [hp] at h
        simp only [Option.some.injEq] at h
        subst h
        simp only [putT]
        rw [kidT_set k' hk, hk]
        simp only
        rw [put_twice u v ps k k' hp]
        cases putT v ps k with
        | none => rfl
        | some z =>
          simp only
          have : ∀ (n : Nat) (F : Fo) (a b : Tn), setF n (setF n F a) b = setF n F b := by
            intro n F
            induction F generalizing n with
            | nil => intro a b; cases n <;> rfl
            | node b o x l r _ ih =>
              intro a b'
              cases n with
              | zero => rfl
              | succ n => simp only [setF]; rw [ih]
          rw [this]
theorem stepT_ok {S : Sg} {ar : Int → Nat} (hS : S.Ok ar) (hUJ : ∀ f u, S.unit f = some u → S.joins f = true) {t t' : Tn} {ps : List Int} {p q : Sp} (ht : RightT S ar t) (hc : Cln t.2) (h : stepT S t ps p = some (t', q)) :
    RightT S ar t' ∧ Cln t'.2 ∧ canonT S t' = canonT S t ∧ ∃ q', stepT S t' ps q = some (t, q') := by
  obtain ⟨n, n', h1, h2, h3⟩ := stepT_some h
  have hn := sub_right ps ht h1
  have hcn := cln_sub ps hc h1
  obtain ⟨r1, r2, r3, q', r4⟩ := stepN_ok hS hUJ hn hcn h2
  refine ⟨put_right r1 ps ht h3, cln_put r2 ps hc h3, (deep hS r1 ps ht h1 h3).2 r3, q', ?_⟩
  exact stepT_of (back_at n' ps t t' h3) r4 (by rw [put_twice n' n ps t t' h3]; exact back_put ps t n h1)

/-! ### within a part -/
theorem sub_append : ∀ (ps qs : List Int) (t : Tn), subT (ps ++ qs) t = (subT ps t).bind (subT qs)
  | [], _, _ => rfl
  | i :: ps, qs, t => by
    simp only [List.cons_append, subT]
    cases kidT i t.2 with
    | none => rfl
    | some k => exact sub_append ps qs k
theorem put_append (u : Tn) : ∀ (ps qs : List Int) (t x : Tn), subT ps t = some x → putT u (ps ++ qs) t = (putT u qs x).bind fun y => putT y ps t
  | [], qs, t, x, h => by
    simp only [subT, Option.some.injEq] at h
    subst h
    simp only [List.nil_append, putT]
    cases putT u qs t <;> rfl
  | i :: ps, qs, t, x, h => by
    simp only [subT] at h
    simp only [List.cons_append, putT]
    cases hk : kidT i t.2 with
    | none => rw [hk] at h; cases h
    | some k =>
      rw [hk] at h
      simp only at h ⊢
      rw [put_append u ps qs k x h]
      cases putT u qs x with
      | none => rfl
      | some y => rfl
theorem stepT_deep {S : Sg} {t x : Tn} (ps qs : List Int) (p : Sp) (h : subT ps t = some x) : stepT S t (ps ++ qs) p = (stepT S x qs p).bind fun r => (putT r.1 ps t).map fun y => (y, r.2) := by
  unfold stepT
  rw [sub_append, h]
  simp only [Option.bind_some]
  cases hn : subT qs x with
  | none => rfl
  | some n =>
    simp only
    cases hs : stepN S n p with
    | none => rfl
    | some r =>
      simp only
      rw [put_append r.1 ps qs t x h]
      cases putT r.1 qs x with
      | none => rfl
      | some y => rfl

/-! ### several -/
/-- A step with its path. -/
structure St where
  path : List Int
  sp : Sp
/-- What is left in the end, and where it stopped. -/
def playN (S : Sg) : Tn → List St → Nat → Option Tn × Nat
  | t, [], _ => (some t, 0)
  | t, x :: r, k => match stepT S t x.path x.sp with
    | some y => playN S y.1 r (k + 1)
    | none => (none, k)
theorem playN_back {S : Sg} {t : Tn} : ∀ (l : List St) (y : Tn) (x : St) (k : Nat), (∃ q', stepT S y x.path x.sp = some (t, q')) → playN S y (x :: l) k = playN S t l (k + 1)
  | l, y, x, k, ⟨q', h⟩ => by simp only [playN]; rw [h]
end Go.Proofs.YtokbgbbkopmngaaGreat
