import Derived.Test.YtokbgbbkopmngaaGreatDvQ
import Derived.Deep.RegionHeld
import Derived.Test.YtokbgbbkopmngaaGreatTBase
import Derived.Test.YtokbgbbkopmngaaGreatKDvLb
/- Down, plainly: steps that were done, with those that lead back; within an argument; backwards. -/
namespace Go.Proofs.YtokbgbbkopmngaaGreat
open Go.RowKit Go.Deep

/-- A step that was done, and the one that leads back. -/
structure Bs where
  path : List Int
  sp : Sp
  back : Sp
def Runs (S : Sg) : List Bs → Tn → Tn → Prop
  | [], t, t' => t' = t
  | b :: l, t, t' => ∃ m, stepT S t b.path b.sp = some (m, b.back) ∧ Runs S l m t'
theorem Runs.nil {S : Sg} (t : Tn) : Runs S [] t t := rfl
theorem Runs.app {S : Sg} : ∀ {l m : List Bs} {t u v : Tn}, Runs S l t u → Runs S m u v → Runs S (l ++ m) t v
  | [], m, t, u, v, h, k => by
    have h : u = t := h
    subst h
    exact k
  | b :: l, m, t, u, v, ⟨x, h1, h2⟩, k => ⟨x, h1, Runs.app h2 k⟩
theorem Runs.one {S : Sg} {t t' : Tn} {b : Bs} (h : stepT S t b.path b.sp = some (t', b.back)) : Runs S [b] t t' := ⟨t', h, rfl⟩
theorem Runs.ok {S : Sg} {ar : Int → Nat} (hS : S.Ok ar) (hUJ : ∀ f u, S.unit f = some u → S.joins f = true) : ∀ {l : List Bs} {t t' : Tn}, RightT S ar t → Cln t.2 → Runs S l t t' → RightT S ar t' ∧ Cln t'.2 ∧ canonT S t' = canonT S t
  | [], t, t', hr, hc, h => by
    have h : t' = t := h
    subst h
    exact ⟨hr, hc, rfl⟩
  | b :: l, t, t', hr, hc, ⟨m, h1, h2⟩ => by
    obtain ⟨r1, r2, r3, _⟩ := stepT_ok hS hUJ hr hc h1
    obtain ⟨k1, k2, k3⟩ := Runs.ok hS hUJ r1 r2 h2
    exact ⟨k1, k2, k3.trans r3⟩

/-! ### a node by its list -/
def nd (x : ByteArray × Int) (l : List Tn) : Tn := (x, mkF l)
theorem nd_self {t : Tn} (h : Cln t.2) : nd t.1 (kidsL t.2) = t := by
  unfold nd
  rw [cln_mk_kids h]
theorem stepT_nil {S : Sg} {t : Tn} {p : Sp} : stepT S t [] p = stepN S t p := by
  unfold stepT
  simp only [subT]
  cases stepN S t p with
  | none => rfl
  | some r => rfl
theorem set_mk : ∀ (n : Nat) (l : List Tn) (k : Tn), setF n (mkF l) k = mkF (l.set n k)
  | n, [], k => by cases n <;> rfl
  | 0, t :: r, k => rfl
  | n + 1, t :: r, k => by simp only [mkF, setF, List.set_cons_succ]; rw [set_mk n r k]
def pre (i : Int) (b : Bs) : Bs := ⟨i :: b.path, b.sp, b.back⟩
theorem Runs.kid {S : Sg} {x : ByteArray × Int} {i : Nat} : ∀ {l : List Bs} {ks : List Tn} {k k' : Tn}, ks[i]? = some k → Runs S l k k' → Runs S (l.map (pre i)) (nd x ks) (nd x (ks.set i k'))
  | [], ks, k, k', hk, h => by
    have h : k' = k := h
    subst h
    show nd x (ks.set i k') = nd x ks
    have : ks.set i k' = ks := by
      obtain ⟨hi, e⟩ := List.getElem?_eq_some_iff.1 hk
      rw [← e]; exact List.set_getElem_self hi
    rw [this]
  | b :: l, ks, k, k', hk, ⟨m, h1, h2⟩ => by
    obtain ⟨hi, _⟩ := List.getElem?_eq_some_iff.1 hk
    have hT : kidT (i : Int) (nd x ks).2 = some k := by
      unfold kidT nd
      simp only [len_mk, kids_mk, Int.toNat_natCast]
      rw [if_pos (by omega)]; exact hk
    have hsub : subT [(i : Int)] (nd x ks) = some k := by simp only [subT, hT]
    refine ⟨nd x (ks.set i m), ?_, ?_⟩
    · show stepT S (nd x ks) ([(i : Int)] ++ b.path) b.sp = _
      rw [stepT_deep [(i : Int)] b.path b.sp hsub, h1]
      simp only [Option.bind_some, putT, hT, Option.map_some, Int.toNat_natCast]
      show some ((x, setF i (mkF ks) m), b.back) = _
      rw [set_mk]; rfl
    · have := Runs.kid (S := S) (x := x) (i := i) (l := l) (ks := ks.set i m) (k := m) (k' := k') (List.getElem?_set_self hi) h2
      rw [List.set_set] at this
      exact this

/-! ### played, there and back -/
def Bs.st (b : Bs) : St := ⟨b.path, b.sp⟩
def Bs.bk (b : Bs) : St := ⟨b.path, b.back⟩
theorem Runs.play {S : Sg} : ∀ {l : List Bs} {t t' : Tn} (r : List St) (k : Nat), Runs S l t t' → playN S t (l.map Bs.st ++ r) k = playN S t' r (k + l.length)
  | [], t, t', r, k, h => by
    have h : t' = t := h
    subst h
    rfl
  | b :: l, t, t', r, k, ⟨m, h1, h2⟩ => by
    show playN S t (b.st :: (l.map Bs.st ++ r)) k = _
    simp only [playN]
    rw [show b.st.path = b.path from rfl, show b.st.sp = b.sp from rfl, h1]
    simp only
    rw [Runs.play r (k + 1) h2, List.length_cons]
    congr 1
    omega
theorem Runs.unplay {S : Sg} {ar : Int → Nat} (hS : S.Ok ar) (hUJ : ∀ f u, S.unit f = some u → S.joins f = true) : ∀ {l : List Bs} {t t' : Tn} (r : List St) (k : Nat), RightT S ar t → Cln t.2 → Runs S l t t' → playN S t' ((l.map Bs.bk).reverse ++ r) k = playN S t r (k + l.length)
  | [], t, t', r, k, _, _, h => by
    have h : t' = t := h
    subst h
    rfl
  | b :: l, t, t', r, k, hr, hc, ⟨m, h1, h2⟩ => by
    obtain ⟨r1, r2, _, q', r4⟩ := stepT_ok hS hUJ hr hc h1
    rw [List.map_cons, List.reverse_cons, List.append_assoc, Runs.unplay hS hUJ _ k r1 r2 h2]
    show playN S m (b.bk :: r) (k + l.length) = _
    rw [playN_back r m b.bk (k + l.length) ⟨q', r4⟩, List.length_cons]
    congr 1

/-! ### squares -/
def sqs (l : List Tn) : Nat := (l.map (fun t => sizeT t * sizeT t)).sum
theorem sqs_nil : sqs [] = 0 := rfl
theorem sqs_cons (t : Tn) (l : List Tn) : sqs (t :: l) = sizeT t * sizeT t + sqs l := by simp [sqs]
theorem sqs_append : ∀ l m : List Tn, sqs (l ++ m) = sqs l + sqs m
  | [], _ => by simp [sqs_nil]
  | t :: l, m => by rw [List.cons_append, sqs_cons, sqs_cons, sqs_append l m]; omega
theorem sqs_le : ∀ l : List Tn, sqs l ≤ sizes l * sizes l
  | [] => Nat.le_refl _
  | t :: l => by
    rw [sqs_cons, sizes_cons]
    have := sqs_le l
    rw [Nat.add_mul, Nat.mul_add, Nat.mul_add]
    have h2 : 0 ≤ sizeT t * sizes l := Nat.zero_le _
    omega
theorem size_pos (t : Tn) : 1 ≤ sizeT t := by unfold sizeT; omega
theorem size_nd (x : ByteArray × Int) (l : List Tn) : sizeT (nd x l) = sizes l + 1 := by
  unfold sizeT nd
  rw [nodes_mk]
theorem sqs_kids (y : Tn) : sqs (kidsL y.2) ≤ sizeT y * sizeT y := by
  have h1 := sqs_le (kidsL y.2)
  have h2 : sizes (kidsL y.2) ≤ sizeT y := by unfold sizeT; rw [← nodes_sizes]; omega
  exact Nat.le_trans h1 (Nat.mul_le_mul h2 h2)
theorem sizes_kids (y : Tn) : sizes (kidsL y.2) + 1 = sizeT y := by unfold sizeT; rw [← nodes_sizes]
theorem len_sizes : ∀ l : List Tn, l.length ≤ sizes l
  | [] => Nat.le_refl _
  | t :: l => by rw [sizes_cons, List.length_cons]; have := size_pos t; have := len_sizes l; omega
theorem bound_sq (n : Nat) (a : Nat) (h : a ≤ n * n) : 4 * a + 4 * n + 4 ≤ 4 * ((n + 1) * (n + 1)) := by
  have h2 : (n + 1) * (n + 1) = n * n + 2 * n + 1 := by rw [Nat.add_mul, Nat.mul_add]; omega
  omega
end Go.Proofs.YtokbgbbkopmngaaGreat
/- Down, plainly: what strip does. -/
namespace Go.Proofs.YtokbgbbkopmngaaGreat
open Go.RowKit Go.Deep

def gaX (S : Sg) (x : ByteArray × Int) : Bool := noName x.1 && S.joins x.2
theorem gath_nd (S : Sg) (x : ByteArray × Int) (l : List Tn) : gathN S (nd x l) = gaX S x := rfl
abbrev flatP (i : Nat) : Sp := ⟨1, i, 0, 0⟩
abbrev dropP (i : Nat) : Sp := ⟨4, i, 0, 0⟩
theorem inI_nat {i n : Nat} (h : i < n) : inI (i : Int) n = true := inI_iff.2 ⟨i, rfl, h⟩
theorem lay_at (U xs R : List Tn) (y : Tn) : layL (U ++ y :: R) U.length 1 xs = U ++ (xs ++ R) := by
  unfold layL
  rw [List.take_left' rfl, ← List.drop_drop, List.drop_left' rfl]
  rfl
theorem at_get (U R : List Tn) (y : Tn) : (U ++ y :: R)[U.length]? = some y := by
  rw [List.getElem?_append_right (Nat.le_refl _), Nat.sub_self]; rfl
/-! ### flat, drop, or neither, at an argument -/
theorem flat_yes {S : Sg} {x : ByteArray × Int} (hg : gaX S x = true) (U R : List Tn) {y : Tn} (hh : headed x.2 y = true) : stepN S (nd x (U ++ y :: R)) (flatP U.length) = some (nd x (U ++ (kidsL y.2 ++ R)), ⟨2, U.length, lenF y.2, 0⟩) := by
  unfold stepN
  rw [if_neg (by show ¬ (1 : Int) = 5; decide), if_pos ⟨hg, inI_nat (by unfold nd; rw [len_mk, List.length_append, List.length_cons]; omega)⟩, if_pos rfl]
  unfold flatN nd
  simp only [kids_mk, Int.toNat_natCast, at_get, hh, if_true, lay_at]
theorem flat_no {S : Sg} {x : ByteArray × Int} (U R : List Tn) {y : Tn} (hh : headed x.2 y = false) : stepN S (nd x (U ++ y :: R)) (flatP U.length) = none := by
  unfold stepN
  rw [if_neg (by show ¬ (1 : Int) = 5; decide)]
  split
  · rw [if_pos rfl]
    unfold flatN nd
    simp only [kids_mk, Int.toNat_natCast, at_get, hh, Bool.false_eq_true, if_false]
  · rfl
theorem step_free {S : Sg} {x : ByteArray × Int} (hg : gaX S x = false) (l : List Tn) {p : Sp} (hp : p.kind ≠ 5) : stepN S (nd x l) p = none := by
  unfold stepN
  rw [if_neg hp, if_neg (by rw [gath_nd, hg]; simp)]
theorem drop_no {S : Sg} {x : ByteArray × Int} (U R : List Tn) {y : Tn} (hu : isUn S x.2 y = false) : stepN S (nd x (U ++ y :: R)) (dropP U.length) = none := by
  unfold stepN
  rw [if_neg (by show ¬ (4 : Int) = 5; decide)]
  split
  · rw [if_neg (by show ¬ (4 : Int) = 1; decide), if_neg (by show ¬ (4 : Int) = 2; decide), if_neg (by show ¬ (4 : Int) = 3; decide), if_pos rfl]
    unfold isUn at hu
    show (match S.unit x.2 with | some u => dropN (nd x (U ++ y :: R)) u (dropP U.length) | none => none) = none
    cases hc : S.unit x.2 with
    | none => rfl
    | some u =>
      rw [hc] at hu
      simp only at hu ⊢
      unfold dropN nd
      simp only [kids_mk, Int.toNat_natCast, at_get, hu, Bool.false_eq_true, if_false]
  · rfl
theorem drop_many {S : Sg} {x : ByteArray × Int} (hg : gaX S x = true) (U R : List Tn) {y : Tn} (hu : isUn S x.2 y = true) (hl : U.length + R.length ≠ 1) : stepN S (nd x (U ++ y :: R)) (dropP U.length) = some (nd x (U ++ R), ⟨5, U.length, 0, x.2⟩) := by
  unfold stepN
  rw [if_neg (by show ¬ (4 : Int) = 5; decide), if_pos ⟨hg, inI_nat (by unfold nd; rw [len_mk, List.length_append, List.length_cons]; omega)⟩, if_neg (by show ¬ (4 : Int) = 1; decide), if_neg (by show ¬ (4 : Int) = 2; decide), if_neg (by show ¬ (4 : Int) = 3; decide), if_pos rfl]
  unfold isUn at hu
  show (match S.unit x.2 with | some u => dropN (nd x (U ++ y :: R)) u (dropP U.length) | none => none) = _
  cases hc : S.unit x.2 with
  | none => rw [hc] at hu; cases hu
  | some u =>
    rw [hc] at hu
    simp only at hu ⊢
    unfold dropN nd
    simp only [kids_mk, Int.toNat_natCast, at_get, hu, if_true]
    rw [if_neg (by rw [len_mk, List.length_append, List.length_cons]; omega), lay_at]
    rfl
theorem drop_one {S : Sg} {x : ByteArray × Int} (hg : gaX S x = true) (U R : List Tn) {y z : Tn} (hu : isUn S x.2 y = true) (hl : U ++ R = [z]) : stepN S (nd x (U ++ y :: R)) (dropP U.length) = some (z, ⟨5, U.length, 1, x.2⟩) := by
  unfold stepN
  rw [if_neg (by show ¬ (4 : Int) = 5; decide), if_pos ⟨hg, inI_nat (by unfold nd; rw [len_mk, List.length_append, List.length_cons]; omega)⟩, if_neg (by show ¬ (4 : Int) = 1; decide), if_neg (by show ¬ (4 : Int) = 2; decide), if_neg (by show ¬ (4 : Int) = 3; decide), if_pos rfl]
  unfold isUn at hu
  show (match S.unit x.2 with | some u => dropN (nd x (U ++ y :: R)) u (dropP U.length) | none => none) = _
  have hlen : U.length + R.length = 1 := by rw [← List.length_append, hl]; rfl
  cases hc : S.unit x.2 with
  | none => rw [hc] at hu; cases hu
  | some u =>
    rw [hc] at hu
    simp only at hu ⊢
    unfold dropN nd
    simp only [kids_mk, Int.toNat_natCast, at_get, hu, if_true]
    rw [if_pos (by rw [len_mk, List.length_append, List.length_cons]; omega)]
    have h2 : (U ++ y :: R)[1 - U.length]? = some z := by
      match U, R, hl, hlen with
      | [], r, hl, _ => simp at hl; subst hl; rfl
      | [a], [], hl, _ => simp at hl; subst hl; rfl
    rw [h2]; rfl

/-! ### strip -/
/-- No term of the symbol's own, and not its unit. -/
def Sd (S : Sg) (x : ByteArray × Int) (k : Tn) : Prop := gaX S x = true → headed x.2 k = false ∧ isUn S x.2 k = false
theorem gaX_joins {S : Sg} {x : ByteArray × Int} (h : gaX S x = true) : S.joins x.2 = true := by
  unfold gaX at h
  rw [Bool.and_eq_true] at h
  exact h.2
/-- strip under way: of the arguments H, M, T those of M are looked at; of them U are left to look at, D are done. -/
structure SpSt (S : Sg) (ar : Int → Nat) (x : ByteArray × Int) (H M T U D : List Tn) (ls : List Bs) : Prop where
  runs : Runs S ls (nd x (H ++ (M ++ T))) (nd x (H ++ (U ++ (D ++ T))))
  cost : ls.length + sizes U + sizes D ≤ sizes M
  sq : sqs U + sqs D ≤ sqs M
  can : (∀ k ∈ M, CanT S ar k) → (∀ k ∈ U, CanT S ar k) ∧ ∀ k ∈ D, CanT S ar k
  idle : (∀ k ∈ M, Sd S x k) → ls = [] ∧ U ++ D = M
  sd : ∀ k ∈ D, Sd S x k
theorem SpSt.start {S : Sg} {ar : Int → Nat} {x : ByteArray × Int} {H M T : List Tn} : SpSt S ar x H M T M [] [] :=
  ⟨by rw [List.nil_append]; exact Runs.nil _, by rw [sizes_nil]; simp, by rw [sqs_nil]; omega, fun h => ⟨h, fun k hk => by cases hk⟩, fun _ => ⟨rfl, List.append_nil _⟩, fun k hk => by cases hk⟩
theorem mid_eq (H U D T : List Tn) (y : Tn) : H ++ ((U ++ [y]) ++ (D ++ T)) = (H ++ U) ++ y :: (D ++ T) := by simp
theorem SpSt.flat {S : Sg} {ar : Int → Nat} {x : ByteArray × Int} {H M T U D : List Tn} {y : Tn} {ls : List Bs} (h : SpSt S ar x H M T (U ++ [y]) D ls) (hg : gaX S x = true) (hh : headed x.2 y = true) :
    SpSt S ar x H M T (U ++ kidsL y.2) D (ls ++ [⟨[], flatP (H ++ U).length, ⟨2, (H ++ U).length, lenF y.2, 0⟩⟩]) := by
  have hst := flat_yes hg (H ++ U) (D ++ T) hh
  refine ⟨h.runs.app (Runs.one ?_), ?_, ?_, fun hm => ?_, fun hm => ?_, h.sd⟩
  · show stepT S _ [] _ = _
    rw [stepT_nil, mid_eq, hst]
    simp
  · have h1 := h.cost
    have h2 := sizes_kids y
    rw [sizes_append, sizes_cons, sizes_nil] at h1
    rw [sizes_append, List.length_append, List.length_singleton]
    omega
  · have h1 := h.sq
    have h2 := sqs_kids y
    rw [sqs_append, sqs_cons, sqs_nil] at h1
    rw [sqs_append]
    omega
  · obtain ⟨c1, c2⟩ := h.can hm
    refine ⟨fun k hk => ?_, c2⟩
    rcases List.mem_append.1 hk with hk | hk
    · exact c1 k (List.mem_append_left _ hk)
    · exact ((can_head (gaX_joins hg) (c1 y (by simp)) hh).2.2.2 k hk).can
  · obtain ⟨_, e⟩ := h.idle hm
    have := (hm y (by rw [← e]; simp) hg).1
    rw [hh] at this; cases this
theorem SpSt.drop {S : Sg} {ar : Int → Nat} {x : ByteArray × Int} {H M T U D : List Tn} {y : Tn} {ls : List Bs} (h : SpSt S ar x H M T (U ++ [y]) D ls) (hg : gaX S x = true) (hu : isUn S x.2 y = true) (hl : (H ++ U).length + (D ++ T).length ≠ 1) :
    SpSt S ar x H M T U D (ls ++ [⟨[], dropP (H ++ U).length, ⟨5, (H ++ U).length, 0, x.2⟩⟩]) := by
  have hst := drop_many hg (H ++ U) (D ++ T) hu hl
  refine ⟨h.runs.app (Runs.one ?_), ?_, ?_, fun hm => ?_, fun hm => ?_, h.sd⟩
  · show stepT S _ [] _ = _
    rw [stepT_nil, mid_eq, hst]
    simp
  · have h1 := h.cost
    have h2 := size_pos y
    rw [sizes_append, sizes_cons, sizes_nil] at h1
    rw [List.length_append, List.length_singleton]
    omega
  · have h1 := h.sq
    rw [sqs_append, sqs_cons, sqs_nil] at h1
    omega
  · obtain ⟨c1, c2⟩ := h.can hm
    exact ⟨fun k hk => c1 k (List.mem_append_left _ hk), c2⟩
  · obtain ⟨_, e⟩ := h.idle hm
    have := (hm y (by rw [← e]; simp) hg).2
    rw [hu] at this; cases this
theorem SpSt.keep {S : Sg} {ar : Int → Nat} {x : ByteArray × Int} {H M T U D : List Tn} {y : Tn} {ls : List Bs} (h : SpSt S ar x H M T (U ++ [y]) D ls) (hs : Sd S x y) : SpSt S ar x H M T U (y :: D) ls := by
  refine ⟨?_, ?_, ?_, fun hm => ?_, fun hm => ?_, fun k hk => ?_⟩
  · have := h.runs
    simpa using this
  · have h1 := h.cost
    rw [sizes_append, sizes_cons, sizes_nil] at h1
    rw [sizes_cons]; omega
  · have h1 := h.sq
    rw [sqs_append, sqs_cons, sqs_nil] at h1
    rw [sqs_cons]; omega
  · obtain ⟨c1, c2⟩ := h.can hm
    refine ⟨fun k hk => c1 k (List.mem_append_left _ hk), fun k hk => ?_⟩
    rcases List.mem_cons.1 hk with rfl | hk
    · exact c1 k (by simp)
    · exact c2 k hk
  · obtain ⟨e1, e⟩ := h.idle hm
    exact ⟨e1, by rw [← e]; simp⟩
  · rcases List.mem_cons.1 hk with rfl | hk
    · exact hs
    · exact h.sd k hk
/-- strip, where the node has become what stood beside a unit. -/
structure SpNo (S : Sg) (x : ByteArray × Int) (H M T : List Tn) (z : Tn) (ls : List Bs) : Prop where
  runs : Runs S ls (nd x (H ++ (M ++ T))) z
  cost : ls.length ≤ sizes M
  gath : gaX S x = true
  which : (H = [z] ∧ T = []) ∨ (H = [] ∧ T = [z]) ∨ (H = [] ∧ T = [] ∧ sizeT z * sizeT z ≤ sqs M ∧ sizeT z ≤ sizes M)
  busy : ¬ ∀ k ∈ M, Sd S x k
theorem SpSt.gone {S : Sg} {ar : Int → Nat} {x : ByteArray × Int} {H M T U D : List Tn} {y z : Tn} {ls : List Bs} (h : SpSt S ar x H M T (U ++ [y]) D ls) (hg : gaX S x = true) (hu : isUn S x.2 y = true) (hl : (H ++ U) ++ (D ++ T) = [z]) :
    SpNo S x H M T z (ls ++ [⟨[], dropP (H ++ U).length, ⟨5, (H ++ U).length, 1, x.2⟩⟩]) := by
  have hst := drop_one hg (H ++ U) (D ++ T) hu hl
  have h1 := h.cost
  have h3 := h.sq
  rw [sizes_append, sizes_cons, sizes_nil] at h1
  rw [sqs_append, sqs_cons, sqs_nil] at h3
  have h2 := size_pos y
  refine ⟨h.runs.app (Runs.one ?_), ?_, hg, ?_, fun hm => ?_⟩
  · show stepT S _ [] _ = _
    rw [stepT_nil, mid_eq, hst]
  · rw [List.length_append, List.length_singleton]; omega
  · have hlen := congrArg List.length hl
    simp only [List.length_append, List.length_singleton] at hlen
    match H, U, D, T, hl, hlen with
    | [a], [], [], [], hl, _ => left; simp at hl; subst hl; exact ⟨rfl, rfl⟩
    | [], [a], [], [], hl, _ =>
      right; right
      simp at hl; subst hl
      simp only [sizes_cons, sizes_nil, sqs_cons, sqs_nil] at h1 h3
      exact ⟨rfl, rfl, by omega, by omega⟩
    | [], [], [a], [], hl, _ =>
      right; right
      simp at hl; subst hl
      simp only [sizes_cons, sizes_nil, sqs_cons, sqs_nil] at h1 h3
      exact ⟨rfl, rfl, by omega, by omega⟩
    | [], [], [], [a], hl, _ => right; left; simp at hl; subst hl; exact ⟨rfl, rfl⟩
  · obtain ⟨_, e⟩ := h.idle hm
    have := (hm y (by rw [← e]; simp) hg).2
    rw [hu] at this; cases this
end Go.Proofs.YtokbgbbkopmngaaGreat
/- Down, plainly: what settle does. -/
namespace Go.Proofs.YtokbgbbkopmngaaGreat
open Go.RowKit Go.Deep

/-- What settle leaves of a node. -/
structure Stl (S : Sg) (ar : Int → Nat) (t t' : Tn) (ls : List Bs) (ok : Bool) : Prop where
  runs : Runs S ls t t'
  yes : ok = true → CanT S ar t' ∧ ls.length ≤ 4 * (sizeT t * sizeT t)
  no : ok = false → sizeT t' < sizeT t ∧ ls.length + 4 * (sizeT t' * sizeT t') ≤ 4 * (sizeT t * sizeT t)
  size : sizeT t' ≤ sizeT t
  idle : CanT S ar t → ls = [] ∧ ok = true ∧ t' = t
/-- settle under way: of the arguments U are left, D are canonical. -/
structure SeSt (S : Sg) (ar : Int → Nat) (x : ByteArray × Int) (ks0 U D : List Tn) (ls : List Bs) : Prop where
  runs : Runs S ls (nd x ks0) (nd x (U ++ D))
  cost : ls.length + 4 * sqs U + sizes U + sizes D ≤ 4 * sqs ks0 + sizes ks0
  small : sizes U + sizes D ≤ sizes ks0
  can : ∀ k ∈ D, CanT S ar k
  sdU : ∀ k ∈ U, Sd S x k
  sdD : ∀ k ∈ D, Sd S x k
  idle : (∀ k ∈ ks0, Sd S x k ∧ CanT S ar k) → ls = [] ∧ U ++ D = ks0
theorem can_sd {S : Sg} {ar : Int → Nat} {x : ByteArray × Int} {ks : List Tn} (h : CanT S ar (nd x ks)) : ∀ k ∈ ks, Sd S x k ∧ CanT S ar k := fun k hk => by
  have hk2 : k ∈ kidsL (nd x ks).2 := by unfold nd; rw [kids_mk]; exact hk
  refine ⟨fun hg => ?_, can_kids h.2 k hk2⟩
  have hj := gaX_joins hg
  have hn : noName x.1 = true := by unfold gaX at hg; rw [Bool.and_eq_true] at hg; exact hg.1
  have hG := (can_head (t := nd x ks) hj h (headed_iff.2 ⟨hn, rfl⟩)).2.2.2 k hk2
  exact ⟨hG.head, hG.unit⟩
theorem SeSt.start {S : Sg} {ar : Int → Nat} {x : ByteArray × Int} {ks0 D : List Tn} {ls : List Bs} (h : SpSt S ar x [] ks0 [] [] D ls) : SeSt S ar x ks0 D [] ls := by
  have h1 := h.cost
  have h2 := h.sq
  rw [sizes_nil] at h1
  rw [sqs_nil] at h2
  refine ⟨?_, by rw [sizes_nil]; omega, by rw [sizes_nil]; omega, fun k hk => (by cases hk), h.sd, fun k hk => (by cases hk), fun hi => ?_⟩
  · have := h.runs
    simpa using this
  · obtain ⟨e1, e2⟩ := h.idle (fun k hk => (hi k hk).1)
    exact ⟨e1, by rw [← e2]; simp⟩
theorem c_sq (ks : List Tn) : 4 * sqs ks + sizes ks ≤ 4 * ((sizes ks + 1) * (sizes ks + 1)) := by
  have h1 := bound_sq (sizes ks) (sqs ks) (sqs_le ks)
  omega
theorem Stl.fail {S : Sg} {ar : Int → Nat} {x : ByteArray × Int} {ks0 : List Tn} {z : Tn} {ls : List Bs} (h : SpNo S x [] ks0 [] z ls) : Stl S ar (nd x ks0) z ls false := by
  have hw : sizeT z * sizeT z ≤ sqs ks0 ∧ sizeT z ≤ sizes ks0 := by
    rcases h.which with ⟨e, _⟩ | ⟨_, e⟩ | ⟨_, _, e1, e2⟩
    · cases e
    · cases e
    · exact ⟨e1, e2⟩
  have hc := c_sq ks0
  have hcost := h.cost
  have hrn : Runs S ls (nd x ks0) z := by have := h.runs; simpa using this
  refine ⟨hrn, fun e => (by cases e), fun _ => ?_, ?_, fun hcan => ?_⟩
  · rw [size_nd]; exact ⟨by omega, by omega⟩
  · rw [size_nd]; omega
  · exact absurd (fun k hk => (can_sd hcan k hk).1) h.busy
theorem set_mid (U D : List Tn) (k k' : Tn) : ((U ++ [k]) ++ D).set U.length k' = U ++ ([k'] ++ D) := by
  rw [List.append_assoc, List.set_append_right _ _ (Nat.le_refl _), Nat.sub_self]
  rfl
theorem SeSt.kid {S : Sg} {ar : Int → Nat} {x : ByteArray × Int} {ks0 U D : List Tn} {k k' : Tn} {ls lk : List Bs} (h : SeSt S ar x ks0 (U ++ [k]) D ls) (hk : Runs S lk k k') : Runs S (ls ++ lk.map (pre U.length)) (nd x ks0) (nd x (U ++ ([k'] ++ D))) := by
  refine h.runs.app ?_
  have := Runs.kid (S := S) (x := x) (i := U.length) (ks := (U ++ [k]) ++ D) (by rw [List.append_assoc]; exact at_get U D k) hk
  rw [set_mid] at this
  exact this
theorem SeSt.done {S : Sg} {ar : Int → Nat} {x : ByteArray × Int} {ks0 U D D1 : List Tn} {k k' : Tn} {ls lk l1 : List Bs} (h : SeSt S ar x ks0 (U ++ [k]) D ls) (hk : Stl S ar k k' lk true) (hp : SpSt S ar x U [k'] D [] D1 l1) :
    SeSt S ar x ks0 U (D1 ++ D) ((ls ++ lk.map (pre U.length)) ++ l1) := by
  have h1 := h.cost
  have h2 := h.small
  have h3 := hp.cost
  obtain ⟨hcan, h4⟩ := hk.yes rfl
  have h5 := hk.size
  rw [sizes_append, sizes_cons, sizes_nil, sqs_append, sqs_cons, sqs_nil] at h1
  rw [sizes_append, sizes_cons, sizes_nil] at h2
  rw [sizes_nil, sizes_cons, sizes_nil] at h3
  obtain ⟨_, hd1⟩ := hp.can (fun q hq => by rw [List.mem_singleton] at hq; subst hq; exact hcan)
  refine ⟨(h.kid hk.runs).app ?_, ?_, ?_, fun q hq => ?_, fun q hq => h.sdU q (List.mem_append_left _ hq), fun q hq => ?_, fun hi => ?_⟩
  · have := hp.runs
    simpa using this
  · rw [List.length_append, List.length_append, List.length_map, sizes_append]; omega
  · rw [sizes_append]; omega
  · rcases List.mem_append.1 hq with hq | hq
    · exact hd1 q hq
    · exact h.can q hq
  · rcases List.mem_append.1 hq with hq | hq
    · exact hp.sd q hq
    · exact h.sdD q hq
  · obtain ⟨e1, e2⟩ := h.idle hi
    have hkm : k ∈ ks0 := by rw [← e2]; simp
    obtain ⟨f1, _, f3⟩ := hk.idle (hi k hkm).2
    subst f3
    obtain ⟨g1, g2⟩ := hp.idle (fun q hq => by rw [List.mem_singleton] at hq; subst hq; exact (hi q hkm).1)
    rw [List.nil_append] at g2
    exact ⟨by rw [e1, f1, g1]; rfl, by rw [g2, ← e2]; simp⟩
theorem SeSt.again {S : Sg} {ar : Int → Nat} {x : ByteArray × Int} {ks0 U D D1 : List Tn} {k k' : Tn} {ls lk l1 : List Bs} (h : SeSt S ar x ks0 (U ++ [k]) D ls) (hk : Stl S ar k k' lk false) (hp : SpSt S ar x U [k'] D [] D1 l1) :
    SeSt S ar x ks0 (U ++ D1) D ((ls ++ lk.map (pre U.length)) ++ l1) ∧ sizes (U ++ D1) < sizes (U ++ [k]) := by
  have h1 := h.cost
  have h2 := h.small
  have h3 := hp.cost
  have h6 := hp.sq
  obtain ⟨h5, h4⟩ := hk.no rfl
  rw [sizes_append, sizes_cons, sizes_nil, sqs_append, sqs_cons, sqs_nil] at h1
  rw [sizes_append, sizes_cons, sizes_nil] at h2
  rw [sizes_nil, sizes_cons, sizes_nil] at h3
  rw [sqs_nil, sqs_cons, sqs_nil] at h6
  refine ⟨⟨(h.kid hk.runs).app ?_, ?_, ?_, h.can, fun q hq => ?_, h.sdD, fun hi => ?_⟩, ?_⟩
  · have := hp.runs
    simpa using this
  · rw [List.length_append, List.length_append, List.length_map, sizes_append, sqs_append]; omega
  · rw [sizes_append]; omega
  · rcases List.mem_append.1 hq with hq | hq
    · exact h.sdU q (List.mem_append_left _ hq)
    · exact hp.sd q hq
  · obtain ⟨e1, e2⟩ := h.idle hi
    have hkm : k ∈ ks0 := by rw [← e2]; simp
    obtain ⟨_, f2, _⟩ := hk.idle (hi k hkm).2
    cases f2
  · rw [sizes_append, sizes_append, sizes_cons, sizes_nil]; omega
theorem SeSt.over {S : Sg} {ar : Int → Nat} (hS : S.Ok ar) (hUJ : ∀ f u, S.unit f = some u → S.joins f = true) {x : ByteArray × Int} {ks0 U D : List Tn} {k k' z : Tn} {ls lk l1 : List Bs} {ok : Bool} (hr : RightT S ar (nd x ks0)) (hc : Cln (nd x ks0).2) (h : SeSt S ar x ks0 (U ++ [k]) D ls) (hk : Stl S ar k k' lk ok) (hp : SpNo S x U [k'] D z l1) :
    Stl S ar (nd x ks0) z ((ls ++ lk.map (pre U.length)) ++ l1) (decide (U.length = 0)) := by
  have h1 := h.cost
  have h2 := h.small
  have h3 := hp.cost
  have h5 := hk.size
  have hcs := c_sq ks0
  rw [sizes_append, sizes_cons, sizes_nil, sqs_append, sqs_cons, sqs_nil] at h1
  rw [sizes_append, sizes_cons, sizes_nil] at h2
  rw [sizes_cons, sizes_nil] at h3
  have h4 : lk.length ≤ 4 * (sizeT k * sizeT k) := by
    cases ok with
    | true => exact (hk.yes rfl).2
    | false => have := (hk.no rfl).2; omega
  have hrun := h.kid hk.runs
  have hlen : (ls ++ lk.map (pre U.length) ++ l1).length = ls.length + lk.length + l1.length := by rw [List.length_append, List.length_append, List.length_map]
  have hidle : CanT S ar (nd x ks0) → False := fun hcan => by
    obtain ⟨e1, e2⟩ := h.idle (can_sd hcan)
    have hkm : k ∈ ks0 := by rw [← e2]; simp
    obtain ⟨_, _, f3⟩ := hk.idle (can_sd hcan k hkm).2
    subst f3
    exact hp.busy (fun q hq => by rw [List.mem_singleton] at hq; subst hq; exact (can_sd hcan q hkm).1)
  rcases hp.which with ⟨rfl, rfl⟩ | ⟨rfl, rfl⟩ | ⟨rfl, rfl, _, _⟩
  · simp only [sizes_cons, sizes_nil, sqs_cons, sqs_nil] at h1 h2
    refine ⟨hrun.app hp.runs, fun e => (by simp at e), fun _ => ?_, ?_, fun hcan => (hidle hcan).elim⟩
    · rw [size_nd, hlen]; exact ⟨by omega, by omega⟩
    · rw [size_nd]; omega
  · simp only [sizes_cons, sizes_nil, sqs_nil] at h1 h2
    refine ⟨hrun.app hp.runs, fun _ => ⟨h.can z (by simp), ?_⟩, fun e => (by simp at e), ?_, fun hcan => (hidle hcan).elim⟩
    · rw [size_nd, hlen]; omega
    · rw [size_nd]; omega
  · exfalso
    have hg := hp.gath
    have hr2 := (Runs.ok hS hUJ hr hc hrun).1
    have := (node_two hr2 (by rw [gath_nd]; exact hg)).1
    unfold nd at this
    rw [len_mk] at this
    simp at this
end Go.Proofs.YtokbgbbkopmngaaGreat
/- Down, plainly: what order does; a node settled whole. -/
namespace Go.Proofs.YtokbgbbkopmngaaGreat
open Go.RowKit Go.Deep

abbrev swapP (i : Nat) : Sp := ⟨3, i, 0, 0⟩
abbrev groupP (i m : Nat) : Sp := ⟨2, i, m, 0⟩
theorem lay_mids (U A R xs : List Tn) : layL (U ++ (A ++ R)) U.length A.length xs = U ++ (xs ++ R) := by
  unfold layL
  rw [List.take_left' rfl, ← List.drop_drop, List.drop_left' rfl, List.drop_left' rfl]
theorem swap_yes {S : Sg} {x : ByteArray × Int} (hg : gaX S x = true) (U R : List Tn) (a b : Tn) : stepN S (nd x (U ++ a :: b :: R)) (swapP U.length) = some (nd x (U ++ b :: a :: R), ⟨3, U.length, 0, 0⟩) := by
  unfold stepN
  rw [if_neg (by show ¬ (3 : Int) = 5; decide), if_pos ⟨hg, inI_nat (by unfold nd; rw [len_mk, List.length_append, List.length_cons]; omega)⟩, if_neg (by show ¬ (3 : Int) = 1; decide), if_neg (by show ¬ (3 : Int) = 2; decide), if_pos rfl]
  unfold swapN nd
  have h2 : (U ++ a :: b :: R)[U.length + 1]? = some b := by
    rw [List.getElem?_append_right (by omega), show U.length + 1 - U.length = 1 by omega]; rfl
  simp only [kids_mk, Int.toNat_natCast, at_get, h2]
  have := lay_mids U [a, b] R [b, a]
  rw [show U ++ ([a, b] ++ R) = U ++ a :: b :: R from rfl, show [a, b].length = 2 from rfl] at this
  rw [this]; rfl
theorem group_yes {S : Sg} {x : ByteArray × Int} (hg : gaX S x = true) (U A R : List Tn) (h2 : 2 ≤ A.length) (h3 : 1 ≤ U.length + R.length) : stepN S (nd x (U ++ (A ++ R))) (groupP U.length A.length) = some (nd x (U ++ ((noB, x.2), mkF A) :: R), ⟨1, U.length, 0, 0⟩) := by
  unfold stepN
  have hlen : (U ++ (A ++ R)).length = U.length + (A.length + R.length) := by rw [List.length_append, List.length_append]
  rw [if_neg (by show ¬ (2 : Int) = 5; decide), if_pos ⟨hg, inI_nat (by unfold nd; rw [len_mk]; omega)⟩, if_neg (by show ¬ (2 : Int) = 1; decide), if_pos rfl]
  unfold groupN nd
  simp only [kids_mk, Int.toNat_natCast, len_mk]
  rw [if_pos (by refine ⟨?_, ?_, ?_⟩ <;> omega), List.drop_left' rfl, List.take_left' rfl, lay_mids]
  rfl
/-- order under way: A is in order, B is left. -/
structure OrSt (S : Sg) (x : ByteArray × Int) (ks0 A B : List Tn) (ls : List Bs) : Prop where
  runs : Runs S ls (nd x ks0) (nd x (A ++ B))
  srt : Srt A
  perm : List.Perm (A ++ B) ks0
  cost : ls.length ≤ 3 * A.length
  idle : Srt ks0 → ls = [] ∧ A ++ B = ks0
theorem OrSt.start {S : Sg} {x : ByteArray × Int} {ks0 : List Tn} : OrSt S x ks0 [] ks0 [] := ⟨Runs.nil _, List.Pairwise.nil, List.Perm.refl _, by simp, fun _ => ⟨rfl, rfl⟩⟩
/-- What move does: b, behind A1 and A2, comes between them. -/
structure MvEnd (S : Sg) (x : ByteArray × Int) (A1 A2 : List Tn) (b : Tn) (B : List Tn) (lm : List Bs) : Prop where
  runs : Runs S lm (nd x (A1 ++ (A2 ++ b :: B))) (nd x (A1 ++ (b :: A2 ++ B)))
  cost : lm.length ≤ 3
  idle : A2 = [] → lm = []
theorem MvEnd.none {S : Sg} {x : ByteArray × Int} {A1 : List Tn} {b : Tn} {B : List Tn} : MvEnd S x A1 [] b B [] := ⟨Runs.nil _, by simp, fun _ => rfl⟩
theorem MvEnd.one {S : Sg} {x : ByteArray × Int} (hg : gaX S x = true) {A1 : List Tn} {a b : Tn} {B : List Tn} : MvEnd S x A1 [a] b B [⟨[], swapP A1.length, ⟨3, A1.length, 0, 0⟩⟩] :=
  ⟨Runs.one (by rw [stepT_nil]; exact swap_yes hg A1 B a b), by simp, fun e => by cases e⟩
theorem MvEnd.many {S : Sg} {x : ByteArray × Int} (hg : gaX S x = true) {A1 A2 : List Tn} {b : Tn} {B : List Tn} (h2 : 2 ≤ A2.length) :
    MvEnd S x A1 A2 b B [⟨[], groupP A1.length A2.length, ⟨1, A1.length, 0, 0⟩⟩, ⟨[], swapP A1.length, ⟨3, A1.length, 0, 0⟩⟩, ⟨[], flatP (A1 ++ [b]).length, ⟨2, (A1 ++ [b]).length, lenF (mkF A2), 0⟩⟩] := by
  refine ⟨⟨nd x (A1 ++ ((noB, x.2), mkF A2) :: b :: B), ?_, nd x (A1 ++ b :: ((noB, x.2), mkF A2) :: B), ?_, nd x (A1 ++ (b :: A2 ++ B)), ?_, rfl⟩, by simp, fun e => by rw [e] at h2; simp at h2⟩
  · rw [stepT_nil]; exact group_yes hg A1 A2 (b :: B) h2 (by rw [List.length_cons]; omega)
  · rw [stepT_nil]; exact swap_yes hg A1 B _ b
  · rw [stepT_nil]
    have := flat_yes hg (A1 ++ [b]) B (y := ((noB, x.2), mkF A2)) (headed_iff.2 ⟨noName_noB, rfl⟩)
    rw [kids_mk] at this
    rw [show A1 ++ b :: ((noB, x.2), mkF A2) :: B = (A1 ++ [b]) ++ ((noB, x.2), mkF A2) :: B by simp]
    rw [show A1 ++ (b :: A2 ++ B) = (A1 ++ [b]) ++ (A2 ++ B) by simp]
    exact this
theorem OrSt.step {S : Sg} {x : ByteArray × Int} {ks0 A1 A2 B : List Tn} {b : Tn} {ls lm : List Bs} (h : OrSt S x ks0 (A1 ++ A2) (b :: B) ls) (h1 : ∀ a ∈ A1, cmpN a b ≤ 0) (h2 : ∀ a ∈ A2, 0 < cmpN a b) (hm : MvEnd S x A1 A2 b B lm) : OrSt S x ks0 (A1 ++ b :: A2) B (ls ++ lm) := by
  obtain ⟨s1, s2, s3⟩ := List.pairwise_append.1 h.srt
  have hp : List.Perm ((A1 ++ b :: A2) ++ B) ((A1 ++ A2) ++ b :: B) := by
    rw [List.append_assoc, List.append_assoc]
    refine List.Perm.append_left A1 ?_
    rw [List.cons_append]
    exact List.perm_middle.symm
  refine ⟨h.runs.app ?_, ?_, hp.trans h.perm, ?_, fun hi => ?_⟩
  · have := hm.runs
    rw [List.append_assoc, List.append_assoc]
    exact this
  · refine List.pairwise_append.2 ⟨s1, List.pairwise_cons.2 ⟨fun a ha => ?_, s2⟩, fun a ha c hc => ?_⟩
    · unfold leN
      rw [cmpN_anti a b]
      have := h2 a ha
      omega
    · rcases List.mem_cons.1 hc with rfl | hc
      · exact h1 a ha
      · exact s3 a ha c hc
  · have := h.cost
    have := hm.cost
    simp only [List.length_append, List.length_cons] at *
    omega
  · obtain ⟨e1, e2⟩ := h.idle hi
    have he : A2 = [] := by
      cases hA : A2 with
      | nil => rfl
      | cons a r =>
        exfalso
        have hs : Srt ((A1 ++ A2) ++ b :: B) := by rw [e2]; exact hi
        obtain ⟨_, _, hx⟩ := List.pairwise_append.1 hs
        have h3 := hx a (by rw [hA]; simp) b (by simp)
        have h4 := h2 a (by rw [hA]; simp)
        unfold leN at h3
        omega
    rw [hm.idle he, e1]
    refine ⟨rfl, ?_⟩
    rw [← e2, he]
    simp
/-- All arguments canonical, in order where they may move: the node is canonical. -/
theorem can_nd {S : Sg} {ar : Int → Nat} {x : ByteArray × Int} {A : List Tn} (hr : RightT S ar (nd x A)) (hc : ∀ k ∈ A, CanT S ar k) (hs : ∀ k ∈ A, Sd S x k) (ho : gaX S x = true → Srt A) : CanT S ar (nd x A) := by
  have hn := hr.1
  refine ⟨?_, can_mk hc⟩
  unfold nodeOk nd at hn
  simp only [len_mk] at hn
  unfold can1 nd
  simp only [kids_mk]
  cases hx : noName x.1 with
  | false =>
    rw [if_pos hx] at hn
    rw [if_pos rfl]
    exact ⟨hn.1, List.length_eq_zero_iff.1 hn.2⟩
  | true =>
    rw [if_neg (by simp [hx])] at hn
    rw [if_neg (by simp)]
    refine ⟨noName_eq hx, ?_⟩
    cases hj : S.joins x.2 with
    | true =>
      rw [if_pos hj] at hn
      rw [if_pos rfl]
      have hg : gaX S x = true := by unfold gaX; rw [hx, hj]; rfl
      exact ⟨hn, ho hg, fun k hk => ⟨(hs k hk hg).2, (hs k hk hg).1⟩⟩
    | false =>
      rw [if_neg (by simp [hj])] at hn
      rw [if_neg (by simp)]
      exact hn
theorem srt_nd {S : Sg} {ar : Int → Nat} {x : ByteArray × Int} {ks : List Tn} (hg : gaX S x = true) (h : CanT S ar (nd x ks)) : Srt ks := by
  have hn : noName x.1 = true := by unfold gaX at hg; rw [Bool.and_eq_true] at hg; exact hg.1
  have := (can_head (t := nd x ks) (gaX_joins hg) h (headed_iff.2 ⟨hn, rfl⟩)).2.2.1
  unfold nd at this
  rw [kids_mk] at this
  exact this
/-- order is done. -/
structure OrEnd (S : Sg) (x : ByteArray × Int) (D A : List Tn) (lo : List Bs) : Prop where
  runs : Runs S lo (nd x D) (nd x A)
  perm : List.Perm A D
  cost : lo.length ≤ 3 * A.length
  srt : gaX S x = true → Srt A
  idle : (gaX S x = true → Srt D) → lo = [] ∧ A = D
theorem OrEnd.free {S : Sg} {x : ByteArray × Int} {D : List Tn} (hg : gaX S x = false) : OrEnd S x D D [] := ⟨Runs.nil _, List.Perm.refl _, by simp, fun h => (by rw [hg] at h; cases h), fun _ => ⟨rfl, rfl⟩⟩
theorem OrSt.fin {S : Sg} {x : ByteArray × Int} {D A : List Tn} {lo : List Bs} (hg : gaX S x = true) (h : OrSt S x D A [] lo) : OrEnd S x D A lo := by
  obtain ⟨h1, h2, h3, h4, h5⟩ := h
  rw [List.append_nil] at h1 h3
  refine ⟨h1, h3, h4, fun _ => h2, fun hi => ?_⟩
  obtain ⟨e1, e2⟩ := h5 (hi hg)
  rw [List.append_nil] at e2
  exact ⟨e1, e2⟩
theorem SeSt.fin {S : Sg} {ar : Int → Nat} (hS : S.Ok ar) (hUJ : ∀ f u, S.unit f = some u → S.joins f = true) {x : ByteArray × Int} {ks0 D A : List Tn} {ls lo : List Bs} (hr : RightT S ar (nd x ks0)) (hc : Cln (nd x ks0).2) (h : SeSt S ar x ks0 [] D ls)
    (ho : OrEnd S x D A lo) : Stl S ar (nd x ks0) (nd x A) (ls ++ lo) true := by
  have hp := ho.perm
  have hrun : Runs S (ls ++ lo) (nd x ks0) (nd x A) := h.runs.app ho.runs
  have h1 := h.cost
  have h2 := h.small
  have h3 := ho.cost
  rw [sizes_nil, sqs_nil] at h1
  rw [sizes_nil] at h2
  have h4 := len_sizes D
  have h5 := hp.length_eq
  have h6 := sizes_perm hp
  have h7 := bound_sq (sizes ks0) (sqs ks0) (sqs_le ks0)
  have hr2 := (Runs.ok hS hUJ hr hc hrun).1
  refine ⟨hrun, fun _ => ⟨can_nd hr2 (fun k hk => h.can k (hp.mem_iff.1 hk)) (fun k hk => h.sdD k (hp.mem_iff.1 hk)) ho.srt, ?_⟩, fun e => (by cases e), ?_, fun hcan => ?_⟩
  · rw [size_nd, List.length_append]; omega
  · rw [size_nd, size_nd]; omega
  · obtain ⟨e1, e2⟩ := h.idle (can_sd hcan)
    rw [List.nil_append] at e2
    subst e2
    obtain ⟨rfl, rfl⟩ := ho.idle (fun hg => srt_nd hg hcan)
    exact ⟨by rw [e1]; rfl, rfl, rfl⟩
/-- Several settles, until one is done. -/
structure DnSt (S : Sg) (ar : Int → Nat) (t0 t : Tn) (ls : List Bs) : Prop where
  runs : Runs S ls t0 t
  cost : ls.length + 4 * (sizeT t * sizeT t) ≤ 4 * (sizeT t0 * sizeT t0)
  size : sizeT t ≤ sizeT t0
  idle : CanT S ar t0 → ls = [] ∧ t = t0
theorem DnSt.start {S : Sg} {ar : Int → Nat} {t : Tn} : DnSt S ar t t [] := ⟨Runs.nil _, by simp, Nat.le_refl _, fun _ => ⟨rfl, rfl⟩⟩
theorem DnSt.more {S : Sg} {ar : Int → Nat} {t0 t t' : Tn} {ls lk : List Bs} (h : DnSt S ar t0 t ls) (hk : Stl S ar t t' lk false) : DnSt S ar t0 t' (ls ++ lk) := by
  have h1 := h.cost
  have h2 := (hk.no rfl).2
  refine ⟨h.runs.app hk.runs, by rw [List.length_append]; omega, Nat.le_trans hk.size h.size, fun hc => ?_⟩
  obtain ⟨_, e2⟩ := h.idle hc
  subst e2
  obtain ⟨_, f, _⟩ := hk.idle hc
  cases f
/-- Down is done. -/
structure DnEnd (S : Sg) (t0 : Tn) (ls : List Bs) : Prop where
  runs : Runs S ls t0 (canonT S t0)
  cost : ls.length ≤ 4 * (sizeT t0 * sizeT t0)
  idle : canonT S t0 = t0 → ls = []
theorem DnSt.fin {S : Sg} {ar : Int → Nat} (hS : S.Ok ar) (hUJ : ∀ f u, S.unit f = some u → S.joins f = true) {t0 t t' : Tn} {ls lk : List Bs} (hr : RightT S ar t0) (hc : Cln t0.2) (h : DnSt S ar t0 t ls) (hk : Stl S ar t t' lk true) : t' = canonT S t0 ∧ DnEnd S t0 (ls ++ lk) := by
  obtain ⟨hcan, h2⟩ := hk.yes rfl
  have hrun := h.runs.app hk.runs
  have he := (Runs.ok hS hUJ hr hc hrun).2.2
  rw [canonT_id hcan] at he
  subst he
  have h1 := h.cost
  refine ⟨rfl, hrun, by rw [List.length_append]; omega, fun e => ?_⟩
  have hc0 : CanT S ar t0 := by rw [← e]; exact canonT_can hS hr
  obtain ⟨e1, e2⟩ := h.idle hc0
  subst e2
  obtain ⟨f1, _, _⟩ := hk.idle hc0
  rw [e1, f1]; rfl
end Go.Proofs.YtokbgbbkopmngaaGreat
/- The walk's record in memory: its path, its steps, those that lead back; a node beside it. -/
namespace Go.Proofs.YtokbgbbkopmngaaGreat
open Go.RowKit Go.Deep

/-- A step of the record, with its path's place. -/
structure Wv where
  b : Bs
  a : Option Addr
  c : Nat
def wsC (x : Wv) : List Value := [.int .i64 x.b.sp.kind, .slice x.a x.b.path.length x.c, .int .i64 x.b.sp.at_, .int .i64 x.b.sp.many, .int .i64 x.b.sp.sym]
def wbC (x : Wv) : List Value := [.int .i64 x.b.back.kind, .slice x.a x.b.path.length x.c, .int .i64 x.b.back.at_, .int .i64 x.b.back.many, .int .i64 x.b.back.sym]
theorem flat5_len {f : Wv → List Value} (hf : ∀ x, (f x).length = 5) : ∀ l : List Wv, (l.flatMap f).length = l.length * 5
  | [] => rfl
  | x :: r => by rw [List.flatMap_cons, List.length_append, hf, flat5_len hf r, List.length_cons]; omega
theorem flat5_at {f : Wv → List Value} (hf : ∀ x, (f x).length = 5) : ∀ (l : List Wv) (i k : Nat) (hi : i < l.length), k < 5 → (l.flatMap f)[i * 5 + k]? = (f l[i])[k]?
  | x :: r, 0, k, _, hk => by
    rw [List.flatMap_cons, Nat.zero_mul, Nat.zero_add, List.getElem?_append_left (by rw [hf]; omega)]
    rfl
  | x :: r, i + 1, k, hi, hk => by
    rw [List.flatMap_cons, List.getElem?_append_right (by rw [hf]; omega), hf, show (i + 1) * 5 + k - 5 = i * 5 + k by omega]
    simpa using flat5_at hf r i k (by simpa using hi) hk
theorem ws5 (x : Wv) : (wsC x).length = 5 := rfl
theorem wb5 (x : Wv) : (wbC x).length = 5 := rfl
/-- The blocks of the record's own rows. -/
def rowsB (B : Nat) (pv sv bv : Value) : Bl := fun q => q = B ∨ pv.ownBlock = some q ∨ sv.ownBlock = some q ∨ bv.ownBlock = some q
/-- A step's path: in a block of X's, apart from the rows. -/
structure WvOk (W : World) (X R : Bl) (x : Wv) : Prop where
  ints : IntsAt W x.a x.b.path.length x.b.path
  few : x.b.path.length ≤ 1048576
  fits : x.b.path.length ≤ x.c
  cap : x.c ≤ maxLen
  far : x.b.path ≠ [] → ∀ ad, x.a = some ad → X ad.block ∧ ¬ R ad.block
theorem ints_keep {w w' : World} {a : Option Addr} {n : Nat} {ps : List Int} (h : IntsAt w a n ps) (hk : ps ≠ [] → ∀ ad, a = some ad → w'.heap[ad.block]? = w.heap[ad.block]?) : IntsAt w' a n ps := by
  cases hp : ps with
  | nil => exact ⟨by rw [h.len, hp], fun i hi => absurd hi (by simp)⟩
  | cons x r => rw [← hp]; exact h.keep (hk (by rw [hp]; simp))
structure Wk (W : World) (X : Bl) (N0 B : Nat) (S : Option Addr) (n cap : Nat) (ps : List Int) (vs : List Wv) (pv sv bv : Value) : Prop where
  box : Box W B 52 #[.slice S n cap, pv, sv, bv]
  inX : X B
  path : W.ownsRow N0 3 1 pv ps.length (intsV ps)
  steps : W.ownsRow N0 47 5 sv vs.length (vs.flatMap wsC)
  backs : W.ownsRow N0 47 5 bv vs.length (vs.flatMap wbC)
  pX : ∀ g, pv.ownBlock = some g → X g
  sX : ∀ g, sv.ownBlock = some g → X g
  bX : ∀ g, bv.ownBlock = some g → X g
  ne : ∀ g, sv.ownBlock = some g → bv.ownBlock ≠ some g
  all : ∀ x ∈ vs, WvOk W X (rowsB B pv sv bv) x
  low : ∀ q, X q → N0 ≤ q ∧ q < W.heap.size
theorem owns_by {w w' : World} {B T s k : Nat} {v : Value} {xs : List Value} (h : w.ownsRow B T s v k xs) (hk : ∀ q, v.ownBlock = some q → w'.heap[q]? = w.heap[q]?) : w'.ownsRow B T s v k xs := by
  refine ⟨h.1, ?_⟩
  rcases h.2 with h1 | ⟨g, c, cur, h1, h2, h3, h4⟩
  · exact .inl h1
  · exact .inr ⟨g, c, cur, h1, h2, (hk g (by rw [h1]; rfl)).trans h3, h4⟩
theorem WvOk.turn {W W' : World} {X X' R R' : Bl} {x : Wv} (h : WvOk W X R x) (hX : ∀ q, X q → X' q) (hl : ∀ q, X q → q < W.heap.size) (hk : ∀ q, X q → ¬ R q → W'.heap[q]? = W.heap[q]?) (hR : ∀ q, R' q → R q ∨ W.heap.size ≤ q) : WvOk W' X' R' x :=
  ⟨ints_keep h.ints (fun hp ad e => hk _ (h.far hp ad e).1 (h.far hp ad e).2), h.few, h.fits, h.cap, fun hp ad e => ⟨hX _ (h.far hp ad e).1, fun hr => by
    rcases hR _ hr with h1 | h1
    · exact (h.far hp ad e).2 h1
    · have := hl _ (h.far hp ad e).1; omega⟩⟩
theorem Wk.keep {W W' : World} {X : Bl} {N0 B : Nat} {S : Option Addr} {n cap : Nat} {ps : List Int} {vs : List Wv} {pv sv bv : Value} (h : Wk W X N0 B S n cap ps vs pv sv bv) (hk : ∀ q, X q → W'.heap[q]? = W.heap[q]?) (hs : W.heap.size ≤ W'.heap.size) : Wk W' X N0 B S n cap ps vs pv sv bv :=
  ⟨(hk B h.inX).trans h.box, h.inX, owns_by h.path (fun q e => hk q (h.pX q e)), owns_by h.steps (fun q e => hk q (h.sX q e)), owns_by h.backs (fun q e => hk q (h.bX q e)), h.pX, h.sX, h.bX, h.ne, fun x hx => (h.all x hx).turn (fun _ hq => hq) (fun q hq => (h.low q hq).2) (fun q hq _ => hk q hq) (fun _ hq => .inl hq), fun q hq => ⟨(h.low q hq).1, Nat.lt_of_lt_of_le (h.low q hq).2 hs⟩⟩
theorem Wk.fr {W W' : World} {X P : Bl} {N0 B : Nat} {S : Option Addr} {n cap : Nat} {ps : List Int} {vs : List Wv} {pv sv bv : Value} (h : Wk W X N0 B S n cap ps vs pv sv bv) (hF : Fr P W W') (hP : ∀ q, P q → ¬ X q) : Wk W' X N0 B S n cap ps vs pv sv bv :=
  h.keep (fun q hq => hF.same q (h.low q hq).2 (fun hp => hP q hp hq)) hF.low.size
theorem Wk.path_at {W : World} {X : Bl} {N0 B : Nat} {S : Option Addr} {n cap : Nat} {ps : List Int} {vs : List Wv} {pv sv bv : Value} (h : Wk W X N0 B S n cap ps vs pv sv bv) : ∃ a c, pv = .slice a ps.length c ∧ IntsAt W a ps.length ps ∧ ps.length ≤ c ∧ c ≤ maxLen := by
  obtain ⟨a, c, h1, h2, h3, h4, _⟩ := ints_of_owns h.path rfl
  exact ⟨a, c, h1, h2, h3, h4⟩
theorem owns_type {W : World} {B T s k : Nat} {v : Value} {xs : List Value} (h : W.ownsRow B T s v k xs) {g : Nat} (hg : v.ownBlock = some g) : ∃ cur, W.heap[g]? = some (.cells cur T (0, 0)) := by
  rcases h.2 with ⟨h1, _⟩ | ⟨g', c, cur, h1, _, h3, _⟩
  · rw [h1] at hg; cases hg
  · rw [h1] at hg; cases hg; exact ⟨cur, h3⟩
theorem type_ne {W : World} {g g' : Nat} {cur cur' : Array Value} {T T' : Nat} (h : W.heap[g]? = some (.cells cur T (0, 0))) (h' : W.heap[g']? = some (.cells cur' T' (0, 0))) (hT : T ≠ T') : g ≠ g' := fun e => by
  subst e
  rw [h] at h'
  cases h'
  exact hT rfl
theorem Wk.p_ne {W : World} {X : Bl} {N0 B : Nat} {S : Option Addr} {n cap : Nat} {ps : List Int} {vs : List Wv} {pv sv bv : Value} (h : Wk W X N0 B S n cap ps vs pv sv bv) {g : Nat} (hg : pv.ownBlock = some g) : g ≠ B ∧ sv.ownBlock ≠ some g ∧ bv.ownBlock ≠ some g := by
  obtain ⟨c1, h1⟩ := owns_type h.path hg
  refine ⟨type_ne h1 (show W.heap[B]? = _ from h.box) (by decide), fun e => ?_, fun e => ?_⟩
  · obtain ⟨c2, h2⟩ := owns_type h.steps e
    exact type_ne h1 h2 (by decide) rfl
  · obtain ⟨c2, h2⟩ := owns_type h.backs e
    exact type_ne h1 h2 (by decide) rfl
theorem Wk.s_ne {W : World} {X : Bl} {N0 B : Nat} {S : Option Addr} {n cap : Nat} {ps : List Int} {vs : List Wv} {pv sv bv : Value} (h : Wk W X N0 B S n cap ps vs pv sv bv) : (∀ g, sv.ownBlock = some g → g ≠ B) ∧ ∀ g, bv.ownBlock = some g → g ≠ B :=
  ⟨fun g hg => by obtain ⟨c1, h1⟩ := owns_type h.steps hg; exact type_ne h1 (show W.heap[B]? = _ from h.box) (by decide), fun g hg => by obtain ⟨c1, h1⟩ := owns_type h.backs hg; exact type_ne h1 (show W.heap[B]? = _ from h.box) (by decide)⟩
theorem owns_lt {W : World} {B T s k : Nat} {v : Value} {xs : List Value} (h : W.ownsRow B T s v k xs) {g : Nat} (hg : v.ownBlock = some g) : g < W.heap.size := by
  obtain ⟨cur, h1⟩ := owns_type h hg
  exact (Array.getElem?_eq_some_iff.1 h1).1
/-- A step more. -/
theorem Wk.more {V W9 : World} {X X' : Bl} {N0 B : Nat} {S : Option Addr} {n cap : Nat} {ps : List Int} {vs : List Wv} {pv sv bv sv' bv' : Value} (h : Wk V X N0 B S n cap ps vs pv sv bv) (x1 : Wv)
    (hi : IntsAt V x1.a x1.b.path.length x1.b.path) (hfew : x1.b.path.length ≤ 1048576) (hfits : x1.b.path.length ≤ x1.c) (hcap : x1.c ≤ maxLen) (hfar : x1.b.path ≠ [] → ∀ ad, x1.a = some ad → X' ad.block ∧ ad.block < V.heap.size ∧ ¬ rowsB B pv sv bv ad.block)
    (hs : W9.ownsRow N0 47 5 sv' (vs.length + 1) (vs.flatMap wsC ++ wsC x1)) (hb : W9.ownsRow N0 47 5 bv' (vs.length + 1) (vs.flatMap wbC ++ wbC x1))
    (hns : ∀ g, sv'.ownBlock = some g → sv.ownBlock = some g ∨ V.heap.size ≤ g) (hnb : ∀ g, bv'.ownBlock = some g → bv.ownBlock = some g ∨ V.heap.size ≤ g) (hne : ∀ g, sv'.ownBlock = some g → bv'.ownBlock ≠ some g)
    (hB : Box W9 B 52 #[.slice S n cap, pv, sv', bv']) (hF : Fr (fun q => q = B ∨ sv.ownBlock = some q ∨ bv.ownBlock = some q) V W9)
    (hX : ∀ q, X q → X' q) (hXn : ∀ q, V.heap.size ≤ q → q < W9.heap.size → X' q) (hlow : ∀ q, X' q → N0 ≤ q ∧ q < W9.heap.size) : Wk W9 X' N0 B S n cap ps (vs ++ [x1]) pv sv' bv' := by
  have hR : ∀ q, rowsB B pv sv' bv' q → rowsB B pv sv bv q ∨ V.heap.size ≤ q := fun q hq => by
    rcases hq with hq | hq | hq | hq
    · exact .inl (.inl hq)
    · exact .inl (.inr (.inl hq))
    · rcases hns q hq with h1 | h1
      · exact .inl (.inr (.inr (.inl h1)))
      · exact .inr h1
    · rcases hnb q hq with h1 | h1
      · exact .inl (.inr (.inr (.inr h1)))
      · exact .inr h1
  refine ⟨hB, hX _ h.inX, owns_by h.path (fun q hq => hF.same q (h.low q (h.pX q hq)).2 ?_), ?_, ?_, fun g hg => hX g (h.pX g hg), fun g hg => ?_, fun g hg => ?_, hne, fun x hx => ?_, hlow⟩
  · obtain ⟨h1, h2, h3⟩ := h.p_ne hq
    rintro (e | e | e)
    · exact h1 e
    · exact h2 e
    · exact h3 e
  · rw [List.length_append, List.flatMap_append]
    simpa using hs
  · rw [List.length_append, List.flatMap_append]
    simpa using hb
  · rcases hns g hg with h1 | h1
    · exact hX g (h.sX g h1)
    · exact hXn g h1 (owns_lt hs hg)
  · rcases hnb g hg with h1 | h1
    · exact hX g (h.bX g h1)
    · exact hXn g h1 (owns_lt hb hg)
  · rcases List.mem_append.1 hx with hx | hx
    · refine (h.all x hx).turn hX (fun q hq => (h.low q hq).2) (fun q hq hr => hF.same q (h.low q hq).2 ?_) hR
      rintro (e | e | e)
      · exact hr (.inl e)
      · exact hr (.inr (.inr (.inl e)))
      · exact hr (.inr (.inr (.inr e)))
    · rw [List.mem_singleton] at hx
      subst hx
      refine ⟨ints_keep hi (fun hp ad e => hF.same _ (hfar hp ad e).2.1 ?_), hfew, hfits, hcap, fun hp ad e => ⟨(hfar hp ad e).1, fun hr => ?_⟩⟩
      · rintro (e2 | e2 | e2)
        · exact (hfar hp ad e).2.2 (.inl e2)
        · exact (hfar hp ad e).2.2 (.inr (.inr (.inl e2)))
        · exact (hfar hp ad e).2.2 (.inr (.inr (.inr e2)))
      · rcases hR _ hr with h1 | h1
        · exact (hfar hp ad e).2.2 h1
        · have := (hfar hp ad e).2.1; omega
/-- A node beside the record. -/
structure Nod (W : World) (X : Bl) (N0 b o : Nat) (A : Bl) (x : ByteArray × Int) (l : List Tn) (a : Option Addr) (c : Nat) (ks : List Kv) (cur : Array Value) : Prop where
  pl : Pl W b o A x a c ks cur
  kids : ks.map Kv.tn = l
  low : ∀ q, A q → N0 ≤ q ∧ q < W.heap.size
  apart : ∀ q, A q → ¬ X q
  out : ¬ X b
  lo : N0 ≤ b
/-- What a call of the walk's leaves: the node is another one, the record goes on; nothing else that there was has turned. -/
structure Res (W : World) (X : Bl) (N0 b o : Nat) (A : Bl) (cur : Array Value) (B : Nat) (S : Option Addr) (n cap : Nat) (ps : List Int) (x' : ByteArray × Int) (l' : List Tn) (ls' : List Bs) (A' X' : Bl) (a : Option Addr) (c : Nat) (ks : List Kv) (cur' : Array Value) (vs : List Wv) (pv sv bv : Value) (W' : World) : Prop where
  fr : Fr (fun q => A q ∨ X q ∨ q = b) W W'
  newA : ∀ q, A' q → A q ∨ W.heap.size ≤ q
  newX : ∀ q, X' q → X q ∨ W.heap.size ≤ q
  size : cur'.size = cur.size
  same : ∀ k, k < o ∨ o + 3 ≤ k → cur'[k]? = cur[k]?
  nod : Nod W' X' N0 b o A' x' l' a c ks cur'
  wk : Wk W' X' N0 B S n cap ps vs pv sv bv
  list : vs.map Wv.b = ls'
def ResE (W : World) (X : Bl) (N0 b o : Nat) (A : Bl) (cur : Array Value) (B : Nat) (S : Option Addr) (n cap : Nat) (ps : List Int) (x' : ByteArray × Int) (l' : List Tn) (ls' : List Bs) (W' : World) : Prop := ∃ A' X' a c ks cur' vs pv sv bv, Res W X N0 b o A cur B S n cap ps x' l' ls' A' X' a c ks cur' vs pv sv bv W'
theorem Res.self {W : World} {X : Bl} {N0 b o : Nat} {A : Bl} {x : ByteArray × Int} {l : List Tn} {a : Option Addr} {c : Nat} {ks : List Kv} {cur : Array Value} {B : Nat} {S : Option Addr} {n cap : Nat} {ps : List Int} {vs : List Wv} {pv sv bv : Value} {W' : World} (hN : Nod W X N0 b o A x l a c ks cur) (hK : Wk W X N0 B S n cap ps vs pv sv bv) (hb : Below W.heap.size W W') : Res W X N0 b o A cur B S n cap ps x l (vs.map Wv.b) A X a c ks cur vs pv sv bv W' :=
  ⟨Fr.of_below hb, fun _ h => .inl h, fun _ h => .inl h, rfl, fun _ _ => rfl, ⟨hN.pl.below hb, hN.kids, fun q hq => ⟨(hN.low q hq).1, Nat.lt_of_lt_of_le (hN.low q hq).2 hb.size⟩, hN.apart, hN.out, hN.lo⟩, hK.keep (fun q hq => hb.block q (hK.low q hq).2) hb.size, rfl⟩
/-- One call behind another one. -/
theorem Res.trans {W W1 W2 : World} {X X1 X2 : Bl} {N0 b o : Nat} {A A1 A2 : Bl} {cur cur1 cur2 : Array Value} {B : Nat} {S : Option Addr} {n cap : Nat} {ps : List Int} {x1 x2 : ByteArray × Int} {l1 l2 : List Tn} {ls1 ls2 : List Bs} {a1 a2 : Option Addr} {c1 c2 : Nat} {ks1 ks2 : List Kv} {vs1 vs2 : List Wv} {pv1 sv1 bv1 pv2 sv2 bv2 : Value}
    (h : Res W X N0 b o A cur B S n cap ps x1 l1 ls1 A1 X1 a1 c1 ks1 cur1 vs1 pv1 sv1 bv1 W1) (k : Res W1 X1 N0 b o A1 cur1 B S n cap ps x2 l2 ls2 A2 X2 a2 c2 ks2 cur2 vs2 pv2 sv2 bv2 W2) : Res W X N0 b o A cur B S n cap ps x2 l2 ls2 A2 X2 a2 c2 ks2 cur2 vs2 pv2 sv2 bv2 W2 := by
  have hs := h.fr.low.size
  refine ⟨⟨h.fr.low.trans k.fr.low, fun q hq hn => (k.fr.same q (by omega) ?_).trans (h.fr.same q hq hn)⟩, fun q hq => ?_, fun q hq => ?_, k.size.trans h.size, fun j hj => (k.same j hj).trans (h.same j hj), k.nod, k.wk, k.list⟩
  · rintro (h1 | h1 | h1)
    · rcases h.newA q h1 with h2 | h2
      · exact hn (.inl h2)
      · omega
    · rcases h.newX q h1 with h2 | h2
      · exact hn (.inr (.inl h2))
      · omega
    · exact hn (.inr (.inr h1))
  · rcases k.newA q hq with h1 | h1
    · exact h.newA q h1
    · exact .inr (by omega)
  · rcases k.newX q hq with h1 | h1
    · exact h.newX q h1
    · exact .inr (by omega)
/-- What lay below all of it stays. -/
theorem Res.low {w0 W W' : World} {X X' : Bl} {b o : Nat} {A A' : Bl} {x x' : ByteArray × Int} {l l' : List Tn} {a a' : Option Addr} {c c' : Nat} {ks ks' : List Kv} {cur cur' : Array Value} {B : Nat} {S : Option Addr} {n cap : Nat} {ps : List Int} {vs vs' : List Wv} {pv sv bv pv' sv' bv' : Value} {ls' : List Bs} (hb : Below w0.heap.size w0 W) (hN : Nod W X w0.heap.size b o A x l a c ks cur) (hK : Wk W X w0.heap.size B S n cap ps vs pv sv bv)
    (h : Res W X w0.heap.size b o A cur B S n cap ps x' l' ls' A' X' a' c' ks' cur' vs' pv' sv' bv' W') : Below w0.heap.size w0 W' :=
  hb.trans (h.fr.below (fun k hk => by
    rcases hk with hk | hk | hk
    · exact (hN.low k hk).1
    · exact (hK.low k hk).1
    · rw [hk]; exact hN.lo) hb.size)
end Go.Proofs.YtokbgbbkopmngaaGreat
/- A drawn statement some of whose operations read cells that its last ones store over: what they read need hold in the midst alone. -/
namespace Go.Proofs.YtokbgbbkopmngaaGreat
open Go.RowKit Go.Deep

/-- Whatever order is picked; behind each operation of 'mid' S holds. -/
def AnyM (P : Program) (md : Region.Mode) (ops : Array Oper) (Q : Exit → Act → World → Prop) (S : World → Prop) (mid : List Nat) : Nat → Array Bool → Act → World → Prop
  | 0, listed, a, w => Region.ready md ops listed = [] ∧ Q .normal a w
  | fuel + 1, listed, a, w => (Region.ready md ops listed = [] → Q .normal a w) ∧ ∀ i ∈ Region.ready md ops listed, wpOp P ops Q i (fun a' w' => (i ∈ mid → S w') ∧ AnyM P md ops Q S mid fuel (listed.setIfInBounds i true) a' w') a w
theorem AnyM.any {P : Program} {md : Region.Mode} {ops : Array Oper} {Q : Exit → Act → World → Prop} {S : World → Prop} {mid : List Nat} : ∀ (fuel : Nat) (listed : Array Bool) (a : Act) (w : World), AnyM P md ops Q S mid fuel listed a w → wpAny P md ops Q fuel listed a w
  | 0, _, _, _, h => h
  | fuel + 1, _, _, _, h => ⟨h.1, fun i hi => wpOp_mono (fun a' w' h' => AnyM.any fuel _ a' w' h'.2) (h.2 i hi)⟩
/-- All that are not of 'mid' are done, or wait for i. -/
def waitM (md : Region.Mode) (ops : Array Oper) (mid : List Nat) (i : Nat) (listed : Array Bool) : Prop := ∀ j oj, ops[j]? = some oj → j ∉ mid → j ≠ i → listed.getD j true = true ∨ ∃ e ∈ oj.after, Region.binds md e = true ∧ e.on = i
def waitB (md : Region.Mode) (ops : Array Oper) (mid : List Nat) (i : Nat) (listed : Array Bool) : Bool := (List.range ops.size).all fun j => mid.contains j || j == i || listed.getD j true || (match ops[j]? with | some oj => oj.after.any fun e => Region.binds md e && e.on == i | none => true)
theorem waitB_spec {md : Region.Mode} {ops : Array Oper} {mid : List Nat} {i : Nat} {listed : Array Bool} (h : waitB md ops mid i listed = true) : waitM md ops mid i listed := fun j oj hj hm hi => by
  have hlt : j < ops.size := (Array.getElem?_eq_some_iff.1 hj).1
  have h1 := List.all_eq_true.1 h j (List.mem_range.2 hlt)
  rw [hj] at h1
  simp only [Bool.or_eq_true, beq_iff_eq] at h1
  rcases h1 with ((h1 | h1) | h1) | h1
  · exact absurd (List.contains_iff_mem.1 h1) hm
  · exact absurd h1 hi
  · exact .inl h1
  · right
    obtain ⟨k, hk, h2⟩ := Array.any_eq_true.1 h1
    rw [Bool.and_eq_true, beq_iff_eq] at h2
    exact ⟨oj.after[k], Array.getElem_mem hk, h2.1, h2.2⟩
theorem getD_set_same (l : Array Bool) (j : Nat) : (l.setIfInBounds j true).getD j true = true := by
  by_cases h : j < l.size
  · simp [Array.getD, h]
  · simp [Array.getD, h]
theorem waitM.set {md : Region.Mode} {ops : Array Oper} {mid : List Nat} {i : Nat} {listed : Array Bool} (h : waitM md ops mid i listed) (j : Nat) : waitM md ops mid i (listed.setIfInBounds j true) := fun k ok hk hm hi => by
  rcases h k ok hk hm hi with h1 | h1
  · left
    by_cases hjk : j = k
    · subst hjk; exact getD_set_same _ _
    · rw [getD_set_ne true hjk]; exact h1
  · exact .inr h1
theorem AnyM.first {P : Program} {md : Region.Mode} {ops : Array Oper} {Q : Exit → Act → World → Prop} {S : World → Prop} {mid : List Nat} {i : Nat} {oi : Oper} {v : Value} (hi : ops[i]? = some oi) (hsel : ∀ (j : Nat) (o : Oper) cs b, ops[j]? = some o → o.op ≠ .select cs b)
    (hQ : ∀ c a w, Q (.panic c) (a.put oi.dst v) w → Q (.panic c) a w) :
    ∀ (fuel : Nat) (listed : Array Bool) (a : Act) (w : World),
      (∀ j oj, ops[j]? = some oj → j ≠ i → listed.getD j true = false → (∀ e ∈ oj.after, Region.binds md e = true → e.on ≠ i) → oi.apart ops oj = true) →
      waitM md ops mid i listed → i ∈ Region.ready md ops listed → YieldsIf P ops S oi v a → S w →
      AnyM P md ops Q S mid fuel (listed.setIfInBounds i true) (a.put oi.dst v) w → AnyM P md ops Q S mid (fuel + 1) listed a w := by
  intro fuel
  induction fuel with
  | zero =>
    intro listed a w _ _ hr hy hS H
    refine ⟨fun h => (by rw [h] at hr; cases hr), fun j hj => ?_⟩
    by_cases hji : j = i
    · subst hji; exact hy.wpOp hi hS ⟨fun _ => hS, H⟩
    · have := ready_mono hj hji
      rw [H.1] at this
      cases this
  | succ fuel ih =>
    intro listed a w hfree hwt hr hy hS H
    refine ⟨fun h => (by rw [h] at hr; cases hr), fun j hj => ?_⟩
    by_cases hji : j = i
    · subst hji; exact hy.wpOp hi hS ⟨fun _ => hS, H⟩
    · have h1 := H.2 j (ready_mono hj hji)
      obtain ⟨hjun, oj, hoj, hall⟩ := mem_ready.1 hj
      have hnot : ∀ e ∈ oj.after, Region.binds md e = true → e.on ≠ i := fun e he hb heq => by
        have h1 := hall e he hb
        have h0 := (mem_ready.1 hr).1
        rw [heq] at h1
        rcases Nat.lt_or_ge i listed.size with h' | h'
        · simp [h'] at h0 h1; rw [h0] at h1; cases h1
        · simp [Array.getElem?_eq_none h'] at h1
      have hjm : j ∈ mid := Decidable.byContradiction fun hm => by
        rcases hwt j oj hoj hm hji with h2 | ⟨e, he, hb, h2⟩
        · rw [hjun] at h2; cases h2
        · exact hnot e he hb h2
      have h2 := wpOp_putIf hoj (hfree j oj hoj hji hjun hnot) (fun cs b => hsel i oi cs b hi) (fun cs b => hsel j oj cs b hoj) hQ hy h1
      have hfree' : ∀ k ok, ops[k]? = some ok → k ≠ i → (listed.setIfInBounds j true).getD k true = false →
          (∀ e ∈ ok.after, Region.binds md e = true → e.on ≠ i) → oi.apart ops ok = true := fun k ok hk hki hun hno => by
        refine hfree k ok hk hki ?_ hno
        by_cases hjk : j = k
        · subst hjk; exact hjun
        · rw [getD_set_ne true hjk] at hun; exact hun
      refine wpOp_mono (fun a' w' h3 => ⟨fun _ => h3.2.1 hjm, ih (listed.setIfInBounds j true) a' w' hfree' (hwt.set j) (ready_mono hr (Ne.symm hji)) h3.1 (h3.2.1 hjm) ?_⟩) h2
      rw [Array.setIfInBounds_comm _ _ hji]
      exact h3.2.2
/-- What yields in whatever world, and is not of 'mid'. -/
theorem AnyM.plain {P : Program} {md : Region.Mode} {ops : Array Oper} {Q : Exit → Act → World → Prop} {S : World → Prop} {mid : List Nat} {i : Nat} {oi : Oper} {v : Value} (hi : ops[i]? = some oi) (hsel : ∀ (j : Nat) (o : Oper) cs b, ops[j]? = some o → o.op ≠ .select cs b)
    (hQ : ∀ c a w, Q (.panic c) (a.put oi.dst v) w → Q (.panic c) a w) (him : i ∉ mid) :
    ∀ (fuel : Nat) (listed : Array Bool) (a : Act) (w : World),
      (∀ j oj, ops[j]? = some oj → j ≠ i → listed.getD j true = false → (∀ e ∈ oj.after, Region.binds md e = true → e.on ≠ i) → oi.apart ops oj = true) →
      i ∈ Region.ready md ops listed → YieldsIf P ops (fun _ => True) oi v a →
      AnyM P md ops Q S mid fuel (listed.setIfInBounds i true) (a.put oi.dst v) w → AnyM P md ops Q S mid (fuel + 1) listed a w := by
  intro fuel
  induction fuel with
  | zero =>
    intro listed a w _ hr hy H
    refine ⟨fun h => (by rw [h] at hr; cases hr), fun j hj => ?_⟩
    by_cases hji : j = i
    · subst hji; exact hy.wpOp hi trivial ⟨fun h => absurd h him, H⟩
    · have := ready_mono hj hji
      rw [H.1] at this
      cases this
  | succ fuel ih =>
    intro listed a w hfree hr hy H
    refine ⟨fun h => (by rw [h] at hr; cases hr), fun j hj => ?_⟩
    by_cases hji : j = i
    · subst hji; exact hy.wpOp hi trivial ⟨fun h => absurd h him, H⟩
    · have h1 := H.2 j (ready_mono hj hji)
      obtain ⟨hjun, oj, hoj, hall⟩ := mem_ready.1 hj
      have hnot : ∀ e ∈ oj.after, Region.binds md e = true → e.on ≠ i := fun e he hb heq => by
        have h1 := hall e he hb
        have h0 := (mem_ready.1 hr).1
        rw [heq] at h1
        rcases Nat.lt_or_ge i listed.size with h' | h'
        · simp [h'] at h0 h1; rw [h0] at h1; cases h1
        · simp [Array.getElem?_eq_none h'] at h1
      have h2 := wpOp_putIf hoj (hfree j oj hoj hji hjun hnot) (fun cs b => hsel i oi cs b hi) (fun cs b => hsel j oj cs b hoj) hQ hy h1
      have hfree' : ∀ k ok, ops[k]? = some ok → k ≠ i → (listed.setIfInBounds j true).getD k true = false →
          (∀ e ∈ ok.after, Region.binds md e = true → e.on ≠ i) → oi.apart ops ok = true := fun k ok hk hki hun hno => by
        refine hfree k ok hk hki ?_ hno
        by_cases hjk : j = k
        · subst hjk; exact hjun
        · rw [getD_set_ne true hjk] at hun; exact hun
      refine wpOp_mono (fun a' w' h3 => ⟨h3.2.1, ih (listed.setIfInBounds j true) a' w' hfree' (ready_mono hr (Ne.symm hji)) h3.1 ?_⟩) h2
      rw [Array.setIfInBounds_comm _ _ hji]
      exact h3.2.2
theorem takeM {P : Program} {md : Region.Mode} {ops : Array Oper} {Q : Exit → Act → World → Prop} {S : World → Prop} {mid : List Nat} {i : Nat} {oi : Oper} {v : Value} {fuel : Nat} {listed : Array Bool} {a : Act} {w : World} (hi : ops[i]? = some oi)
    (hs : Region.noSelect ops = true) (hf : Region.free md ops listed i = true) (hr : (Region.ready md ops listed).contains i = true) (hwt : waitB md ops mid i listed = true)
    (hQ : ∀ c a w, Q (.panic c) (a.put oi.dst v) w → Q (.panic c) a w) (hy : YieldsIf P ops S oi v a) (hS : S w)
    (h : AnyM P md ops Q S mid fuel (listed.setIfInBounds i true) (a.put oi.dst v) w) : AnyM P md ops Q S mid (fuel + 1) listed a w :=
  AnyM.first hi (Region.noSelect_spec hs) hQ fuel listed a w (Region.free_spec hi hf) (waitB_spec hwt) (by simpa using hr) hy hS h
theorem plainM {P : Program} {md : Region.Mode} {ops : Array Oper} {Q : Exit → Act → World → Prop} {S : World → Prop} {mid : List Nat} {i : Nat} {oi : Oper} {v : Value} {fuel : Nat} {listed : Array Bool} {a : Act} {w : World} (hi : ops[i]? = some oi)
    (hs : Region.noSelect ops = true) (hf : Region.free md ops listed i = true) (hr : (Region.ready md ops listed).contains i = true) (him : mid.contains i = false)
    (hQ : ∀ c a w, Q (.panic c) (a.put oi.dst v) w → Q (.panic c) a w) (hy : YieldsIf P ops (fun _ => True) oi v a)
    (h : AnyM P md ops Q S mid fuel (listed.setIfInBounds i true) (a.put oi.dst v) w) : AnyM P md ops Q S mid (fuel + 1) listed a w :=
  AnyM.plain hi (Region.noSelect_spec hs) hQ (fun hm => by rw [List.contains_iff_mem.2 hm] at him; cases him) fuel listed a w (Region.free_spec hi hf) (by simpa using hr) hy h
def ReadyM (P : Program) (md : Region.Mode) (ops : Array Oper) (Q : Exit → Act → World → Prop) (S : World → Prop) (mid : List Nat) (fuel : Nat) (listed : Array Bool) (a : Act) (w : World) (rs : List Nat) : Prop :=
  ∀ i ∈ rs, wpOp P ops Q i (fun a' w' => (i ∈ mid → S w') ∧ AnyM P md ops Q S mid fuel (listed.setIfInBounds i true) a' w') a w
theorem ReadyM.nil {P : Program} {md : Region.Mode} {ops : Array Oper} {Q : Exit → Act → World → Prop} {S : World → Prop} {mid : List Nat} {fuel : Nat} {listed : Array Bool} {a : Act} {w : World} : ReadyM P md ops Q S mid fuel listed a w [] := fun _ h => by cases h
/-- One of 'mid'. -/
theorem ReadyM.cons {P : Program} {md : Region.Mode} {ops : Array Oper} {Q : Exit → Act → World → Prop} {S : World → Prop} {mid : List Nat} {fuel : Nat} {listed : Array Bool} {a : Act} {w : World} {i : Nat} {o : Oper} {rs : List Nat} (ho : ops[i]? = some o)
    (h : ∀ K' : Act → World → Prop, Shut (∀ a w, S w → (S w → AnyM P md ops Q S mid fuel (listed.setIfInBounds i true) a w) → K' a w) → if Region.wanted o (yielded ops a.tmps) = true then Oper.wp P o a w K' Q else K' (a.put o.dst undef) w)
    (hs : ReadyM P md ops Q S mid fuel listed a w rs) : ReadyM P md ops Q S mid fuel listed a w (i :: rs) := fun j hj => by
  rcases List.mem_cons.1 hj with rfl | hj
  · exact wpOp_step ho (fun K' hK => h K' (fun a w hS hW => hK a w ⟨fun _ => hS, hW hS⟩))
  · exact hs j hj
/-- One that is not of 'mid'. -/
theorem ReadyM.last {P : Program} {md : Region.Mode} {ops : Array Oper} {Q : Exit → Act → World → Prop} {S : World → Prop} {mid : List Nat} {fuel : Nat} {listed : Array Bool} {a : Act} {w : World} {i : Nat} {o : Oper} (ho : ops[i]? = some o) (him : mid.contains i = false)
    (h : ∀ K' : Act → World → Prop, Shut (∀ a w, AnyM P md ops Q S mid fuel (listed.setIfInBounds i true) a w → K' a w) → if Region.wanted o (yielded ops a.tmps) = true then Oper.wp P o a w K' Q else K' (a.put o.dst undef) w) : ReadyM P md ops Q S mid fuel listed a w [i] := fun j hj => by
  rcases List.mem_cons.1 hj with rfl | hj
  · exact wpOp_step ho (fun K' hK => h K' (fun a w hW => hK a w ⟨fun hm => (by rw [List.contains_iff_mem.2 hm] at him; cases him), hW⟩))
  · cases hj
theorem readyM {P : Program} {md : Region.Mode} {ops : Array Oper} {Q : Exit → Act → World → Prop} {S : World → Prop} {mid : List Nat} {rs : List Nat} {fuel : Nat} {listed : Array Bool} {a : Act} {w : World} (hr : Region.ready md ops listed = rs) (hne : rs ≠ [])
    (h : ReadyM P md ops Q S mid fuel listed a w rs) : AnyM P md ops Q S mid (fuel + 1) listed a w := ⟨fun h0 => absurd (hr ▸ h0) hne, hr ▸ h⟩
theorem doneM {P : Program} {md : Region.Mode} {ops : Array Oper} {Q : Exit → Act → World → Prop} {S : World → Prop} {mid : List Nat} {listed : Array Bool} {a : Act} {w : World} (hr : Region.ready md ops listed = []) (h : Q .normal a w) : ∀ fuel, AnyM P md ops Q S mid fuel listed a w
  | 0 => ⟨hr, h⟩
  | _ + 1 => ⟨fun _ => h, by rw [hr]; simp⟩
theorem region_mid {P : Program} {ops : Array Oper} {Q : Exit → Act → World → Prop} {S : World → Prop} (mid : List Nat) {id : Nat} {a : Act} {w : World} (hm : P.follows .mixedOrders = true) (hS : S w.drew)
    (h : S w.drew → AnyM P .any ops Q S mid ops.size (Array.replicate ops.size false) a w.drew) : (Code.region id ops true).wp P Q a w :=
  wp_region_any hm (AnyM.any _ _ _ _ (h hS))
end Go.Proofs.YtokbgbbkopmngaaGreat
/- The walk's try: the step done. -/
namespace Go.Proofs.YtokbgbbkopmngaaGreat
open Go.RowKit Go.Deep

theorem deed_fr {V w3 : World} {b o : Nat} {A : Bl} {cur : Array Value} {r : Option (Tn × Sp)} {e : Ending} (h : DeedEnd V b o A cur r e w3) : Fr (fun q => A q ∨ q = b) V w3 := by
  cases r with
  | none => exact Fr.of_below h.2
  | some r =>
    obtain ⟨_, A', a, c, ks, _, hU⟩ := h
    exact ⟨hU.low, fun q hq hn => hU.same q hq (fun h1 => hn (.inl h1)) (fun h1 => hn (.inr h1))⟩
theorem fr_behind {W0 V w3 : World} {P : Bl} (hb : Below W0.heap.size W0 V) (hF : Fr P V w3) : Fr P W0 w3 := (Fr.of_below hb).trans hF
theorem fr_new {W0 V : World} {P : Bl} (hF : Fr P W0 V) (o : Obj) : Fr P W0 (V.alloc o) := hF.trans (Fr.of_below (alloc_below0 V o))
theorem fr_sets5 {W0 V : World} {P : Bl} {B : Nat} (hF : Fr P W0 V) (h : W0.heap.size ≤ B) (x0 x1 x2 x3 x4 : Value) : Fr P W0 (((((V.setCell ⟨B, 0, none⟩ x0).setCell ⟨B, 1, none⟩ x1).setCell ⟨B, 2, none⟩ x2).setCell ⟨B, 3, none⟩ x3).setCell ⟨B, 4, none⟩ x4) :=
  ⟨sets5_below hF.low (Nat.zero_le _) _ _ _ _ _, fun q hq hn => (sets5_far (by omega) _ _ _ _ _).trans (hF.same q hq hn)⟩
theorem box_deed {W0 V w3 : World} {b Bx : Nat} {A : Bl} {cs : Array Value} (hB : Box V Bx 47 cs) (hF : Fr (fun q => A q ∨ q = b) V w3) (hA : ∀ q, A q → q < W0.heap.size) (hx : W0.heap.size ≤ Bx) (hb : b < W0.heap.size) : Box w3 Bx 47 cs := by
  refine (hF.same Bx hB.lt ?_).trans hB
  rintro (h | h)
  · have := hA Bx h; omega
  · omega
/-- The step is done, the one that leads back lies in a box. -/
structure TrSt (W0 : World) (b o : Nat) (A : Bl) (cur : Array Value) (r : Option (Tn × Sp)) (Bx : Nat) (W3 : World) : Prop where
  fr : Fr (fun q => A q ∨ q = b) W0 W3
  box : Box W3 Bx 47 (stepC (ansSp r) none 0 0)
  lo : W0.heap.size ≤ Bx
  got : ∀ rr, r = some rr → ∃ A' a c ks cur', ks.map Kv.tn = kidsL rr.1.2 ∧ cur'.size = cur.size ∧ (∀ k, k < o ∨ o + 3 ≤ k → cur'[k]? = cur[k]?) ∧ Pl W3 b o A' rr.1.1 a c ks cur' ∧ ∀ q, A' q → (A q ∨ W0.heap.size ≤ q) ∧ q < W3.heap.size ∧ q ≠ Bx
  not : r = none → Below W0.heap.size W0 W3
theorem TrSt.before {W0 V w3 : World} {b o Bx : Nat} {A : Bl} {cur : Array Value} {r : Option (Tn × Sp)} {e : Ending} {bs : Sp} {y0 y1 y2 y3 y4 : Value} (hbs : ansSp r = bs) (hb : Below W0.heap.size W0 V) (hE : DeedEnd V b o A cur r e w3) (hx : W0.heap.size ≤ Bx) (hxV : Bx < V.heap.size) (hB : Box w3 Bx 47 #[y0, y1, y2, y3, y4]) (hA : ∀ q, A q → q < W0.heap.size) (hbl : b < W0.heap.size) :
    TrSt W0 b o A cur r Bx (((((w3.setCell ⟨Bx, 0, none⟩ (.int .i64 bs.kind)).setCell ⟨Bx, 1, none⟩ (.slice none 0 0)).setCell ⟨Bx, 2, none⟩ (.int .i64 bs.at_)).setCell ⟨Bx, 3, none⟩ (.int .i64 bs.many)).setCell ⟨Bx, 4, none⟩ (.int .i64 bs.sym)) := by
  subst hbs
  have hF := fr_behind hb (deed_fr hE)
  refine ⟨fr_sets5 hF hx _ _ _ _ _, sets5_box hB _ _ _ _ _, hx, fun rr hr => ?_, fun hr => ?_⟩
  · subst hr
    obtain ⟨_, A', a, c, ks, hk, hU⟩ := hE
    obtain ⟨cur', h1, h2, h3⟩ := hU.node
    have hne : ∀ q, A' q → q ≠ Bx := fun q hq e => by
      rcases hU.new q hq with h | h
      · have := hA q h; omega
      · omega
    refine ⟨fun q => A' q ∧ q < w3.heap.size, a, c, ks, cur', hk, h1, h2, h3.within.keep (sets5_far (by omega) _ _ _ _ _) (fun q hq _ => sets5_far (hne q hq.1) _ _ _ _ _), fun q hq => ⟨?_, ?_, hne q hq.1⟩⟩
    · rcases hU.new q hq.1 with h | h
      · exact .inl h
      · exact .inr (Nat.le_trans hb.size h)
    · exact Nat.lt_of_lt_of_le hq.2 (sets5_below (Below.refl 0 w3) (Nat.zero_le Bx) _ _ _ _ _).size
  · subst hr
    exact sets5_below (hb.trans (hE.2.mono hb.size)) hx _ _ _ _ _
theorem TrSt.behind {W0 V w3 : World} {b o : Nat} {A : Bl} {cur : Array Value} {r : Option (Tn × Sp)} {e : Ending} {bs : Sp} (hbs : ansSp r = bs) (hb : Below W0.heap.size W0 V) (hE : DeedEnd V b o A cur r e w3) :
    TrSt W0 b o A cur r w3.heap.size (w3.alloc (.cells (stepC bs none 0 0) 47)) := by
  subst hbs
  have hF := fr_behind hb (deed_fr hE)
  refine ⟨fr_new hF _, Box.new _ _ _, hF.low.size, fun rr hr => ?_, fun hr => ?_⟩
  · subst hr
    obtain ⟨_, A', a, c, ks, hk, hU⟩ := hE
    obtain ⟨cur', h1, h2, h3⟩ := hU.node
    refine ⟨fun q => A' q ∧ q < w3.heap.size, a, c, ks, cur', hk, h1, h2, h3.within.below (alloc_below0 _ _), fun q hq => ⟨?_, ?_, by have := hq.2; omega⟩⟩
    · rcases hU.new q hq.1 with h | h
      · exact .inl h
      · exact .inr (Nat.le_trans hb.size h)
    · rw [World.size_alloc]; have := hq.2; omega
  · subst hr
    have h1 := hb.trans (hE.2.mono hb.size)
    exact h1.alloc h1.size _
theorem fr_grown {w w' : World} {row : Option Nat} (h : w.grownBy w' row) : Fr (fun q => row = some q) w w' := ⟨⟨h.os, h.tape, h.output, h.size, fun _ hk => absurd hk (Nat.not_lt_zero _)⟩, fun q hq hn => h.block q hq (fun e => hn e.symm)⟩
theorem Tryz.info39b : (Tryz.prog.info? 47).map (fun i => (i.zero, i.size, i.bytes)) = some (some (.agg (stepC zSp none 0 0)), 5, 56) := by kernel_rfl
/-- Both rows have grown. -/
structure ApEnd (V6 : World) (N0 B : Nat) (S : Option Addr) (n cap : Nat) (vs : List Wv) (x1 : Wv) (pv sv bv sv' bv' sb bb : Value) (W9 : World) : Prop where
  hs : W9.ownsRow N0 47 5 sv' (vs.length + 1) (vs.flatMap wsC ++ wsC x1)
  hb : W9.ownsRow N0 47 5 bv' (vs.length + 1) (vs.flatMap wbC ++ wbC x1)
  hns : ∀ g, sv'.ownBlock = some g → sv.ownBlock = some g ∨ V6.heap.size ≤ g
  hnb : ∀ g, bv'.ownBlock = some g → bv.ownBlock = some g ∨ V6.heap.size ≤ g
  hne : ∀ g, sv'.ownBlock = some g → bv'.ownBlock ≠ some g
  box : Box W9 B 52 #[.slice S n cap, pv, sb, bb]
  fr : Fr (fun q => q = B ∨ sv.ownBlock = some q ∨ bv.ownBlock = some q) V6 W9
theorem ap_ne {V6 : World} {X : Bl} {N0 B : Nat} {S : Option Addr} {n cap : Nat} {ps : List Int} {vs : List Wv} {pv sv bv : Value} {g3 g4 H : Nat} {w3 : World} (hK : Wk V6 X N0 B S n cap ps vs pv sv bv) (h3 : sv.ownBlock = some g3 ∨ V6.heap.size ≤ g3) (hl : g3 < w3.heap.size) (h4 : bv.ownBlock = some g4 ∨ g4 = H) (hH : w3.heap.size ≤ H) : g3 ≠ g4 := fun e => by
  subst e
  rcases h4 with h4 | h4
  · rcases h3 with h3 | h3
    · exact hK.ne _ h3 h4
    · have := owns_lt hK.backs h4; omega
  · omega
theorem ap_keep {V6 w3 U w4 : World} {X : Bl} {N0 B : Nat} {S : Option Addr} {n cap : Nat} {ps : List Int} {vs : List Wv} {pv sv bv : Value} {P : Bl} {g3 c3 m : Nat} {xs : List Value} (_hF : Fr P V6 w3) (hK : Wk V6 X N0 B S n cap ps vs pv sv bv) (ho : w3.ownsRow N0 47 5 (.slice (some ⟨g3, 0, none⟩) m c3) m xs) (h3 : sv.ownBlock = some g3 ∨ V6.heap.size ≤ g3) (hU : Below w3.heap.size w3 U) (hg : U.grownBy w4 bv.ownBlock) : w4.ownsRow N0 47 5 (.slice (some ⟨g3, 0, none⟩) m c3) m xs := by
  refine owns_by ho (fun q e => ?_)
  have hq : q < w3.heap.size := owns_lt ho e
  have e : some g3 = some q := e
  cases e
  refine (hg.block g3 (Nat.lt_of_lt_of_le hq hU.size) (fun e => ?_)).trans (hU.block g3 hq)
  rcases h3 with h3 | h3
  · exact hK.ne _ h3 e.symm
  · have := owns_lt hK.backs e.symm; omega
theorem ApEnd.of {V6 w4 : World} {X : Bl} {N0 B : Nat} {S : Option Addr} {n cap : Nat} {ps : List Int} {vs : List Wv} {x1 : Wv} {pv sv bv : Value} {g3 c3 g4 c4 : Nat} (hK : Wk V6 X N0 B S n cap ps vs pv sv bv) (hF : Fr (fun z => sv.ownBlock = some z ∨ bv.ownBlock = some z) V6 w4)
    (hs : w4.ownsRow N0 47 5 (.slice (some ⟨g3, 0, none⟩) (vs.length + 1) c3) (vs.length + 1) (vs.flatMap wsC ++ wsC x1)) (hb : w4.ownsRow N0 47 5 (.slice (some ⟨g4, 0, none⟩) (vs.length + 1) c4) (vs.length + 1) (vs.flatMap wbC ++ wbC x1))
    (h3 : sv.ownBlock = some g3 ∨ V6.heap.size ≤ g3) (h4 : bv.ownBlock = some g4 ∨ V6.heap.size ≤ g4) (hne : g3 ≠ g4) : ApEnd V6 N0 B S n cap vs x1 pv sv bv (.slice (some ⟨g3, 0, none⟩) (vs.length + 1) c3) (.slice (some ⟨g4, 0, none⟩) (vs.length + 1) c4) sv bv w4 := by
  refine ⟨hs, hb, fun g e => by cases e; exact h3, fun g e => by cases e; exact h4, fun g e e2 => by cases e; cases e2; exact hne rfl, ?_, hF.mono (fun _ hq => .inr hq)⟩
  refine (hF.same B hK.box.lt ?_).trans hK.box
  rintro (e | e)
  · exact hK.s_ne.1 B e rfl
  · exact hK.s_ne.2 B e rfl
theorem ApEnd.fin {V6 w4 : World} {N0 B : Nat} {S : Option Addr} {n cap : Nat} {vs : List Wv} {x1 : Wv} {pv sv bv sv' bv' : Value} (h : ApEnd V6 N0 B S n cap vs x1 pv sv bv sv' bv' sv bv w4) : ApEnd V6 N0 B S n cap vs x1 pv sv bv sv' bv' sv' bv' ((w4.setCell ⟨B, 2, none⟩ sv').setCell ⟨B, 3, none⟩ bv') := by
  have hk : ∀ q, q ≠ B → ((w4.setCell ⟨B, 2, none⟩ sv').setCell ⟨B, 3, none⟩ bv').heap[q]? = w4.heap[q]? := fun q hq => (set_far hq _).trans (set_far hq _)
  have h1 : ∀ g, sv'.ownBlock = some g → g ≠ B := fun g hg => by obtain ⟨c1, e1⟩ := owns_type h.hs hg; exact type_ne e1 (show w4.heap[B]? = _ from h.box) (by decide)
  have h2 : ∀ g, bv'.ownBlock = some g → g ≠ B := fun g hg => by obtain ⟨c1, e1⟩ := owns_type h.hb hg; exact type_ne e1 (show w4.heap[B]? = _ from h.box) (by decide)
  refine ⟨owns_by h.hs (fun q e => hk q (h1 q e)), owns_by h.hb (fun q e => hk q (h2 q e)), h.hns, h.hnb, h.hne, (h.box.set 2 sv').set 3 bv', h.fr.trans ⟨((Below.refl 0 w4).setCell (p := ⟨B, 2, none⟩) (Nat.zero_le _) _).setCell (p := ⟨B, 3, none⟩) (Nat.zero_le _) _, fun q _ hn => hk q (fun e => hn (.inl e))⟩⟩
set_option maxRecDepth 100000 in
set_option maxHeartbeats 4000000 in
theorem try_any (w0 : World) (S : Option Addr) (n cap B b o : Nat) (L : List Sym) (X A : Bl) (x : ByteArray × Int) (l : List Tn) (a : Option Addr) (c : Nat) (ks : List Kv) (cur : Array Value) (ps : List Int) (vs : List Wv) (pv sv bv : Value) (p : Sp) (W : World)
    (hS : SigAt w0 S n L) (hb : Below w0.heap.size w0 W) (hN : Nod W X w0.heap.size b o A x l a c ks cur) (hK : Wk W X w0.heap.size B S n cap ps vs pv sv bv) (hn : nodesF (nd x l).2 ≤ 1048576) (hps : ps.length ≤ 1048576) (hvs : vs.length ≤ 1048576) :
    Calls Tryz.prog 69 #[.pointer (some ⟨B, 0, none⟩), .pointer (some ⟨b, o, none⟩), stepV p none 0 0] W fun e W' => match stepN (sgOf L) (nd x l) p with
      | none => e = .returned (.bool false) ∧ Below W.heap.size W W'
      | some r => e = .returned (.bool true) ∧ ResE W X w0.heap.size b o A cur B S n cap ps r.1.1 (kidsL r.1.2) (vs.map Wv.b ++ [⟨ps, p, r.2⟩]) W' := by
  obtain ⟨kd, at_, many, sym⟩ := p
  obtain ⟨r, hr⟩ : ∃ r, stepN (sgOf L) (nd x l) ⟨kd, at_, many, sym⟩ = r := ⟨_, rfl⟩
  rw [hr]
  obtain ⟨W0, hW0⟩ : ∃ W0, W.alloc (.cells #[.int .i64 kd, .slice none 0 0, .int .i64 at_, .int .i64 many, .int .i64 sym] 47) = W0 := ⟨_, rfl⟩
  have hb0 : Below W.heap.size W W0 := by rw [← hW0]; exact alloc_below0 _ _
  have hY : Box W0 W.heap.size 47 #[.int .i64 kd, .slice none 0 0, .int .i64 at_, .int .i64 many, .int .i64 sym] := by rw [← hW0]; exact Box.new _ _ _
  have hsz : W0.heap.size = W.heap.size + 1 := by rw [← hW0]; exact World.size_alloc _ _
  have hP := hN.pl.below hb0
  have hK0 := hK.keep (fun q hq => hb0.block q (hK.low q hq).2) hb0.size
  obtain ⟨bs, hbs⟩ : ∃ bs, ansSp r = bs := ⟨_, rfl⟩
  obtain ⟨okb, hok⟩ : ∃ okb, ansOk r = okb := ⟨_, rfl⟩
  have HA0 : Hid (∀ q, A q → q < W0.heap.size) := hid (fun q hq => by have := (hN.low q hq).2; omega)
  have HB0 : Hid (b < W0.heap.size) := hid hP.lt
  obtain ⟨Y, hYe⟩ : ∃ Y, W.heap.size = Y := ⟨_, rfl⟩
  rw [hYe] at hY
  have HSS : Hid (∀ V, Fr (fun q => A q ∨ q = b) W0 V → V.cell? ⟨B, 0, none⟩ = some (.slice S n cap) ∧ Box V Y 47 #[.int .i64 kd, .slice none 0 0, .int .i64 at_, .int .i64 many, .int .i64 sym]) := hid (fun V hV => by
    refine ⟨?_, (hV.same Y hY.lt ?_).trans hY⟩
    · have h1 : V.heap[B]? = W0.heap[B]? := hV.same B hK0.box.lt (by
        rintro (h | h)
        · exact hN.apart B h hK.inX
        · exact hN.out (h ▸ hK.inX))
      exact (World.cell?_of_block (w := W0) h1).trans (hK0.box.v (k := 0) rfl)
    · rintro (h | h)
      · have := (hN.low Y h).2; omega
      · have := hN.pl.lt; omega)
  have HPA : Hid (∀ V, Below W0.heap.size W0 V → Calls Tryz.prog 37 #[.slice S n cap, .pointer (some ⟨b, o, none⟩)] V fun e w2 => e = .returned (placeV S n cap b o (unitI L x.2) (unitOk L x.2)) ∧ Below V.heap.size V w2) := hid (fun V hV => by
    have hbV : Below w0.heap.size w0 V := hb.trans ((hb0.trans (hV.mono hb0.size)).mono hb.size)
    exact placeAt_any S n cap b o L x a ks.length c V (hS.below hbV) (hP.nd.below hV))
  have HDO : Hid (∀ V, Below W0.heap.size W0 V → Calls Tryz.prog 38 #[placeV S n cap b o (unitI L x.2) (unitOk L x.2), .agg #[.int .i64 kd, .slice none 0 0, .int .i64 at_, .int .i64 many, .int .i64 sym]] V (DeedEnd V b o A cur r)) := hid (fun V hV => by
    have hbV : Below w0.heap.size w0 V := hb.trans ((hb0.trans (hV.mono hb0.size)).mono hb.size)
    have := do_any S n cap b o L A (nd x l) a c ks cur ⟨kd, at_, many, sym⟩ none 0 0 V (hS.below hbV) (hP.below hV) (by rw [show kidsL (nd x l).2 = l from kids_mk l]; exact hN.kids) hn
    rw [hr] at this
    exact this)
  have HN := hid hN; have HK := hid hK; have HK0 := hid hK0; have HB := hid hb; have HBW := hid hb0; have HSZ := hid hsz; have HYE := hid hYe; have HS := hid hS; have HR := hid hr
  have HY0 := hid hY; have HBS := hid hbs; have HOK := hid hok; have HPS := hid hps; have HVS := hid hvs
  clear hN hK hK0 hb hb0 hsz hYe hS hr hP hY hn hps hvs hok hbs
  go_enter Tryz.func69, Tryz.ntmps69
  go_wp2_with fail
  clear hW0
  rw [HYE.out]
  go_cut [7, 8] (fun u v W3 => ∃ Bx, u = .pointer (some ⟨Bx, 0, none⟩) ∧ v = .bool okb ∧ TrSt W0 b o A cur r Bx W3)
  case first =>
    refine wp_region_held_drew (S := fun V => V.cell? ⟨B, 0, none⟩ = some (.slice S n cap) ∧ Box V Y 47 #[.int .i64 kd, .slice none 0 0, .int .i64 at_, .int .i64 many, .int .i64 sym]) (by kernel_rfl) (HSS.out _ (Fr.of_below ((Below.refl _ W0).drew))) ?_
    intro hS
    refine wpAnyH_take (i := 0) (v := (.pointer (some ⟨B, 0, none⟩))) rfl (by kernel_rfl) (by kernel_rfl) (by kernel_rfl) (fun _ _ _ h => h) (Or.inl ⟨by rfl, fun w' hw' => ?_⟩) hS ?_
    · go_simp
    try simp only [Act.put, List.getElem_toArray, List.getElem_cons_zero, List.setIfInBounds_toArray, List.set_cons_zero, List.set_cons_succ]
    refine wpAnyH_take (i := 1) (v := (.pointer (some ⟨B, 0, none⟩))) rfl (by kernel_rfl) (by kernel_rfl) (by kernel_rfl) (fun _ _ _ h => h) (Or.inl ⟨by rfl, fun w' hw' => ?_⟩) hS ?_
    · go_simp
    try simp only [Act.put, List.getElem_toArray, List.getElem_cons_zero, List.getElem_cons_succ, List.setIfInBounds_toArray, List.set_cons_zero, List.set_cons_succ]
    refine wpAnyH_take (i := 2) (v := (.pointer (some ⟨B, 0, none⟩))) rfl (by kernel_rfl) (by kernel_rfl) (by kernel_rfl) (fun _ _ _ h => h) (Or.inl ⟨by rfl, fun w' hw' => ?_⟩) hS ?_
    · go_simp
    try simp only [Act.put, List.getElem_toArray, List.getElem_cons_zero, List.getElem_cons_succ, List.setIfInBounds_toArray, List.set_cons_zero, List.set_cons_succ]
    refine wpAnyH_take (i := 3) (v := (.slice S n cap)) rfl (by kernel_rfl) (by kernel_rfl) (by kernel_rfl) (fun _ _ _ h => h) (Or.inl ⟨by rfl, fun w' hw' => ?_⟩) hS ?_
    · have y0 := hw'.1; go_simp
    try simp only [Act.put, List.getElem_toArray, List.getElem_cons_zero, List.getElem_cons_succ, List.setIfInBounds_toArray, List.set_cons_zero, List.set_cons_succ]
    refine wpAnyH_take (i := 4) (v := (.pointer (some ⟨b, o, none⟩))) rfl (by kernel_rfl) (by kernel_rfl) (by kernel_rfl) (fun _ _ _ h => h) (Or.inl ⟨by rfl, fun w' hw' => ?_⟩) hS ?_
    · go_simp
    try simp only [Act.put, List.getElem_toArray, List.getElem_cons_zero, List.getElem_cons_succ, List.setIfInBounds_toArray, List.set_cons_zero, List.set_cons_succ]
    refine wpAnyH_take (i := 6) (v := (.agg #[.int .i64 kd, .slice none 0 0, .int .i64 at_, .int .i64 many, .int .i64 sym])) rfl (by kernel_rfl) (by kernel_rfl) (by kernel_rfl) (fun _ _ _ h => h) (Or.inl ⟨by rfl, fun w' hw' => ?_⟩) hS ?_
    · have z0 := hw'.2.v (k := 0) rfl; have z1 := hw'.2.v (k := 1) rfl; have z2 := hw'.2.v (k := 2) rfl; have z3 := hw'.2.v (k := 3) rfl; have z4 := hw'.2.v (k := 4) rfl; go_simp
    try simp only [Act.put, List.getElem_toArray, List.getElem_cons_zero, List.getElem_cons_succ, List.setIfInBounds_toArray, List.set_cons_zero, List.set_cons_succ]
    refine wpAnyH_ready (rs := [5, 11]) (by kernel_rfl) (by simp) ?_
    refine (AllReadyH.cons rfl (fun K hK => ?_) (AllReadyH.cons rfl (fun K hK => ?_) AllReadyH.nil))
    · go_simp
      refine Calls.mono (HPA.out (W0.drew) ((Below.refl _ W0).drew)) ?_
      rintro e w2 ⟨rfl, hqw2⟩
      have Hw2 : Hid (Below W0.heap.size W0 w2) := hid ((show Below W0.heap.size W0 (W0.drew) from (Below.refl _ W0).drew).trans (hqw2.mono (show Below W0.heap.size W0 (W0.drew) from (Below.refl _ W0).drew).size))
      have HQw2 := hid hqw2
      clear hqw2
      refine hK.out _ _ (HSS.out _ (Fr.of_below Hw2.out)) (fun hS => ?_)
      clear hK K
      try simp only [Act.put, List.getElem_toArray, List.getElem_cons_zero, List.getElem_cons_succ, List.setIfInBounds_toArray, List.set_cons_zero, List.set_cons_succ]
      refine wpAnyH_ready (rs := [7, 11]) (by kernel_rfl) (by simp) ?_
      refine (AllReadyH.cons rfl (fun K hK => ?_) (AllReadyH.cons rfl (fun K hK => ?_) AllReadyH.nil))
      · go_simp
        refine Calls.mono (HDO.out (w2) (Hw2.out)) ?_
        intro e w3 hE
        have he := hE.ret
        rw [HBS.out, HOK.out] at he
        subst he
        have HE := hid hE
        have HF := hid (deed_fr hE)
        clear hE
        refine hK.out _ _ (HSS.out _ (fr_behind Hw2.out HF.out)) (fun hS => ?_)
        clear hK K
        try simp only [Act.put, List.getElem_toArray, List.getElem_cons_zero, List.getElem_cons_succ, List.setIfInBounds_toArray, List.set_cons_zero, List.set_cons_succ]
        refine wpAnyH_take (i := 8) (v := (.tuple #[stepV bs none 0 0, .bool okb])) rfl (by kernel_rfl) (by kernel_rfl) (by kernel_rfl) (fun _ _ _ h => h) (Or.inl ⟨by rfl, fun w' hw' => ?_⟩) hS ?_
        · go_simp
        try simp only [Act.put, List.getElem_toArray, List.getElem_cons_zero, List.getElem_cons_succ, List.setIfInBounds_toArray, List.set_cons_zero, List.set_cons_succ]
        refine wpAnyH_take (i := 9) (v := (stepV bs none 0 0)) rfl (by kernel_rfl) (by kernel_rfl) (by kernel_rfl) (fun _ _ _ h => h) (Or.inl ⟨by rfl, fun w' hw' => ?_⟩) hS ?_
        · go_simp
        try simp only [Act.put, List.getElem_toArray, List.getElem_cons_zero, List.getElem_cons_succ, List.setIfInBounds_toArray, List.set_cons_zero, List.set_cons_succ]
        refine wpAnyH_take (i := 10) (v := (.bool okb)) rfl (by kernel_rfl) (by kernel_rfl) (by kernel_rfl) (fun _ _ _ h => h) (Or.inl ⟨by rfl, fun w' hw' => ?_⟩) hS ?_
        · go_simp
        try simp only [Act.put, List.getElem_toArray, List.getElem_cons_zero, List.getElem_cons_succ, List.setIfInBounds_toArray, List.set_cons_zero, List.set_cons_succ]
        refine wpAnyH_ready (rs := [11]) (by kernel_rfl) (by simp) ?_
        refine (AllReadyH.cons rfl (fun K hK => ?_) AllReadyH.nil)
        go_simp
        refine hK.out _ _ (HSS.out _ (fr_new (fr_behind Hw2.out HF.out) _)) (fun hS => ?_)
        clear hK K
        try simp only [Act.put, List.getElem_toArray, List.getElem_cons_zero, List.getElem_cons_succ, List.setIfInBounds_toArray, List.set_cons_zero, List.set_cons_succ]
        refine wpAnyH_ready (rs := [12]) (by kernel_rfl) (by simp) ?_
        refine (AllReadyH.cons rfl (fun K hK => ?_) AllReadyH.nil)
        go_simp
        refine hK.out _ _ (HSS.out _ (fr_new (fr_behind Hw2.out HF.out) _)) (fun hS => ?_)
        clear hK K
        try simp only [Act.put, List.getElem_toArray, List.getElem_cons_zero, List.getElem_cons_succ, List.setIfInBounds_toArray, List.set_cons_zero, List.set_cons_succ]
        refine wpAnyH_take (i := 13) (v := (.bool okb)) rfl (by kernel_rfl) (by kernel_rfl) (by kernel_rfl) (fun _ _ _ h => h) (Or.inl ⟨by rfl, fun w' hw' => ?_⟩) hS ?_
        · go_simp
        try simp only [Act.put, List.getElem_toArray, List.getElem_cons_zero, List.getElem_cons_succ, List.setIfInBounds_toArray, List.set_cons_zero, List.set_cons_succ]
        refine wpAnyH_done (by kernel_rfl) ?_ _
        go_wp2_with fail
        go_meet
        exact ⟨w3.heap.size, rfl, rfl, TrSt.behind HBS.out Hw2.out HE.out⟩
      · go_simp
        refine hK.out _ _ (HSS.out _ (Fr.of_below (Hw2.out.alloc Hw2.out.size (.cells #[.int .i64 0, .slice none 0 0, .int .i64 0, .int .i64 0, .int .i64 0] 47)))) (fun hS => ?_)
        clear hK K
        try simp only [Act.put, List.getElem_toArray, List.getElem_cons_zero, List.getElem_cons_succ, List.setIfInBounds_toArray, List.set_cons_zero, List.set_cons_succ]
        refine wpAnyH_ready (rs := [7]) (by kernel_rfl) (by simp) ?_
        refine (AllReadyH.cons rfl (fun K hK => ?_) AllReadyH.nil)
        go_simp
        refine Calls.mono (HDO.out ((w2.alloc (.cells #[.int .i64 0, .slice none 0 0, .int .i64 0, .int .i64 0, .int .i64 0] 47))) (Hw2.out.alloc Hw2.out.size _)) ?_
        intro e w3 hE
        have he := hE.ret
        rw [HBS.out, HOK.out] at he
        subst he
        have HE := hid hE
        have HF := hid (deed_fr hE)
        clear hE
        refine hK.out _ _ (HSS.out _ (fr_behind (Hw2.out.alloc Hw2.out.size _) HF.out)) (fun hS => ?_)
        clear hK K
        try simp only [Act.put, List.getElem_toArray, List.getElem_cons_zero, List.getElem_cons_succ, List.setIfInBounds_toArray, List.set_cons_zero, List.set_cons_succ]
        have HB3 : Hid (Box w3 w2.heap.size 47 (stepC zSp none 0 0)) := hid (box_deed (Box.new w2 47 _) HF.out HA0.out Hw2.out.size HB0.out)
        have z0 := HB3.out.v (k := 0) rfl; have z1 := HB3.out.v (k := 1) rfl; have z2 := HB3.out.v (k := 2) rfl; have z3 := HB3.out.v (k := 3) rfl; have z4 := HB3.out.v (k := 4) rfl
        have f0 := HB3.out.f 0; have f1 := HB3.out.f 1; have f2 := HB3.out.f 2; have f3 := HB3.out.f 3; have f4 := HB3.out.f 4
        refine wpAnyH_take (i := 8) (v := (.tuple #[stepV bs none 0 0, .bool okb])) rfl (by kernel_rfl) (by kernel_rfl) (by kernel_rfl) (fun _ _ _ h => h) (Or.inl ⟨by rfl, fun w' hw' => ?_⟩) hS ?_
        · go_simp
        try simp only [Act.put, List.getElem_toArray, List.getElem_cons_zero, List.getElem_cons_succ, List.setIfInBounds_toArray, List.set_cons_zero, List.set_cons_succ]
        refine wpAnyH_take (i := 9) (v := (stepV bs none 0 0)) rfl (by kernel_rfl) (by kernel_rfl) (by kernel_rfl) (fun _ _ _ h => h) (Or.inl ⟨by rfl, fun w' hw' => ?_⟩) hS ?_
        · go_simp
        try simp only [Act.put, List.getElem_toArray, List.getElem_cons_zero, List.getElem_cons_succ, List.setIfInBounds_toArray, List.set_cons_zero, List.set_cons_succ]
        refine wpAnyH_take (i := 10) (v := (.bool okb)) rfl (by kernel_rfl) (by kernel_rfl) (by kernel_rfl) (fun _ _ _ h => h) (Or.inl ⟨by rfl, fun w' hw' => ?_⟩) hS ?_
        · go_simp
        try simp only [Act.put, List.getElem_toArray, List.getElem_cons_zero, List.getElem_cons_succ, List.setIfInBounds_toArray, List.set_cons_zero, List.set_cons_succ]
        refine wpAnyH_ready (rs := [12]) (by kernel_rfl) (by simp) ?_
        refine (AllReadyH.cons rfl (fun K hK => ?_) AllReadyH.nil)
        go_simp
        refine hK.out _ _ (HSS.out _ (fr_sets5 (fr_behind (Hw2.out.alloc Hw2.out.size _) HF.out) Hw2.out.size _ _ _ _ _)) (fun hS => ?_)
        clear hK K
        try simp only [Act.put, List.getElem_toArray, List.getElem_cons_zero, List.getElem_cons_succ, List.setIfInBounds_toArray, List.set_cons_zero, List.set_cons_succ]
        refine wpAnyH_take (i := 13) (v := (.bool okb)) rfl (by kernel_rfl) (by kernel_rfl) (by kernel_rfl) (fun _ _ _ h => h) (Or.inl ⟨by rfl, fun w' hw' => ?_⟩) hS ?_
        · go_simp
        try simp only [Act.put, List.getElem_toArray, List.getElem_cons_zero, List.getElem_cons_succ, List.setIfInBounds_toArray, List.set_cons_zero, List.set_cons_succ]
        refine wpAnyH_done (by kernel_rfl) ?_ _
        go_wp2_with fail
        go_meet
        exact ⟨w2.heap.size, rfl, rfl, TrSt.before HBS.out (Hw2.out.alloc Hw2.out.size _) HE.out Hw2.out.size (by rw [World.size_alloc]; omega) HB3.out HA0.out HB0.out⟩
    · go_simp
      refine hK.out _ _ (HSS.out _ (Fr.of_below ((alloc_below0 W0 (.cells #[.int .i64 0, .slice none 0 0, .int .i64 0, .int .i64 0, .int .i64 0] 47)).drew))) (fun hS => ?_)
      clear hK K
      try simp only [Act.put, List.getElem_toArray, List.getElem_cons_zero, List.getElem_cons_succ, List.setIfInBounds_toArray, List.set_cons_zero, List.set_cons_succ]
      refine wpAnyH_ready (rs := [5]) (by kernel_rfl) (by simp) ?_
      refine (AllReadyH.cons rfl (fun K hK => ?_) AllReadyH.nil)
      go_simp
      refine Calls.mono (HPA.out ((W0.alloc (.cells #[.int .i64 0, .slice none 0 0, .int .i64 0, .int .i64 0, .int .i64 0] 47)).drew) (((alloc_below0 W0 (.cells #[.int .i64 0, .slice none 0 0, .int .i64 0, .int .i64 0, .int .i64 0] 47)).drew))) ?_
      rintro e w2 ⟨rfl, hqw2⟩
      have Hw2 : Hid (Below W0.heap.size W0 w2) := hid ((show Below W0.heap.size W0 ((W0.alloc (.cells #[.int .i64 0, .slice none 0 0, .int .i64 0, .int .i64 0, .int .i64 0] 47)).drew) from ((alloc_below0 W0 (.cells #[.int .i64 0, .slice none 0 0, .int .i64 0, .int .i64 0, .int .i64 0] 47)).drew)).trans (hqw2.mono (show Below W0.heap.size W0 ((W0.alloc (.cells #[.int .i64 0, .slice none 0 0, .int .i64 0, .int .i64 0, .int .i64 0] 47)).drew) from ((alloc_below0 W0 (.cells #[.int .i64 0, .slice none 0 0, .int .i64 0, .int .i64 0, .int .i64 0] 47)).drew)).size))
      have HQw2 := hid hqw2
      clear hqw2
      refine hK.out _ _ (HSS.out _ (Fr.of_below Hw2.out)) (fun hS => ?_)
      clear hK K
      try simp only [Act.put, List.getElem_toArray, List.getElem_cons_zero, List.getElem_cons_succ, List.setIfInBounds_toArray, List.set_cons_zero, List.set_cons_succ]
      refine wpAnyH_ready (rs := [7]) (by kernel_rfl) (by simp) ?_
      refine (AllReadyH.cons rfl (fun K hK => ?_) AllReadyH.nil)
      go_simp
      refine Calls.mono (HDO.out (w2) (Hw2.out)) ?_
      intro e w3 hE
      have he := hE.ret
      rw [HBS.out, HOK.out] at he
      subst he
      have HE := hid hE
      have HF := hid (deed_fr hE)
      clear hE
      refine hK.out _ _ (HSS.out _ (fr_behind Hw2.out HF.out)) (fun hS => ?_)
      clear hK K
      try simp only [Act.put, List.getElem_toArray, List.getElem_cons_zero, List.getElem_cons_succ, List.setIfInBounds_toArray, List.set_cons_zero, List.set_cons_succ]
      have HB3 : Hid (Box w3 W0.heap.size 47 (stepC zSp none 0 0)) := hid (box_deed (Box.below (show Box (W0.alloc (.cells #[.int .i64 0, .slice none 0 0, .int .i64 0, .int .i64 0, .int .i64 0] 47)).drew W0.heap.size 47 _ from Box.new W0 47 _) HQw2.out) HF.out (HA0.out) (Nat.le_refl _) HB0.out)
      have z0 := HB3.out.v (k := 0) rfl; have z1 := HB3.out.v (k := 1) rfl; have z2 := HB3.out.v (k := 2) rfl; have z3 := HB3.out.v (k := 3) rfl; have z4 := HB3.out.v (k := 4) rfl
      have f0 := HB3.out.f 0; have f1 := HB3.out.f 1; have f2 := HB3.out.f 2; have f3 := HB3.out.f 3; have f4 := HB3.out.f 4
      refine wpAnyH_take (i := 8) (v := (.tuple #[stepV bs none 0 0, .bool okb])) rfl (by kernel_rfl) (by kernel_rfl) (by kernel_rfl) (fun _ _ _ h => h) (Or.inl ⟨by rfl, fun w' hw' => ?_⟩) hS ?_
      · go_simp
      try simp only [Act.put, List.getElem_toArray, List.getElem_cons_zero, List.getElem_cons_succ, List.setIfInBounds_toArray, List.set_cons_zero, List.set_cons_succ]
      refine wpAnyH_take (i := 9) (v := (stepV bs none 0 0)) rfl (by kernel_rfl) (by kernel_rfl) (by kernel_rfl) (fun _ _ _ h => h) (Or.inl ⟨by rfl, fun w' hw' => ?_⟩) hS ?_
      · go_simp
      try simp only [Act.put, List.getElem_toArray, List.getElem_cons_zero, List.getElem_cons_succ, List.setIfInBounds_toArray, List.set_cons_zero, List.set_cons_succ]
      refine wpAnyH_take (i := 10) (v := (.bool okb)) rfl (by kernel_rfl) (by kernel_rfl) (by kernel_rfl) (fun _ _ _ h => h) (Or.inl ⟨by rfl, fun w' hw' => ?_⟩) hS ?_
      · go_simp
      try simp only [Act.put, List.getElem_toArray, List.getElem_cons_zero, List.getElem_cons_succ, List.setIfInBounds_toArray, List.set_cons_zero, List.set_cons_succ]
      refine wpAnyH_ready (rs := [12]) (by kernel_rfl) (by simp) ?_
      refine (AllReadyH.cons rfl (fun K hK => ?_) AllReadyH.nil)
      go_simp
      refine hK.out _ _ (HSS.out _ (fr_sets5 (fr_behind Hw2.out HF.out) (Nat.le_refl _) _ _ _ _ _)) (fun hS => ?_)
      clear hK K
      try simp only [Act.put, List.getElem_toArray, List.getElem_cons_zero, List.getElem_cons_succ, List.setIfInBounds_toArray, List.set_cons_zero, List.set_cons_succ]
      refine wpAnyH_take (i := 13) (v := (.bool okb)) rfl (by kernel_rfl) (by kernel_rfl) (by kernel_rfl) (fun _ _ _ h => h) (Or.inl ⟨by rfl, fun w' hw' => ?_⟩) hS ?_
      · go_simp
      try simp only [Act.put, List.getElem_toArray, List.getElem_cons_zero, List.getElem_cons_succ, List.setIfInBounds_toArray, List.set_cons_zero, List.set_cons_succ]
      refine wpAnyH_done (by kernel_rfl) ?_ _
      go_wp2_with fail
      go_meet
      exact ⟨W0.heap.size, rfl, rfl, TrSt.before HBS.out Hw2.out HE.out (Nat.le_refl _) (by have := HQw2.out.size; exact Nat.lt_of_lt_of_le (by show _ < (W0.alloc _).heap.size; rw [World.size_alloc]; omega) this) HB3.out HA0.out HB0.out⟩
  case rest =>
    obtain ⟨Bx, rfl, rfl, hT⟩ := hcut
    obtain ⟨W3, rfl⟩ : ∃ W3, W3 = wc := ⟨_, rfl⟩
    have HT := hid hT
    clear hT HPA HDO HSS
    cases r with
    | none =>
      have e1 : okb = false := by rw [← HOK.out]; rfl
      subst e1
      go_wp2
      go_ret
      exact ⟨rfl, HBW.out.trans ((HT.out.not rfl).mono HBW.out.size)⟩
    | some rr =>
      have e1 : okb = true := by rw [← HOK.out]; rfl
      subst e1
      obtain ⟨A', a3, c3, ks3, cur3, hk3, hs3, ho3, hP3, hA3⟩ := HT.out.got rr rfl
      have HFX : Hid (∀ q, (A q ∨ q = b) → ¬ X q) := hid (fun q hq hx => by
        rcases hq with h | h
        · exact HN.out.apart q h hx
        · exact HN.out.out (h ▸ hx))
      have hK3 := HK0.out.fr HT.out.fr HFX.out
      obtain ⟨pa, pc, rfl, hpI, hpl, hpm⟩ := hK3.path_at
      have hYn : W0.heap[Y]? = some (.cells #[.int .i64 kd, .slice none 0 0, .int .i64 at_, .int .i64 many, .int .i64 sym] 47 (0, 0)) := HY0.out
      have hY3 : Box W3 Y 47 #[.int .i64 kd, .slice none 0 0, .int .i64 at_, .int .i64 many, .int .i64 sym] := (HT.out.fr.same Y (show Box W0 Y 47 _ from HY0.out).lt (fun h => by
        have := HSZ.out; have := HYE.out
        rcases h with h | h
        · have := (HN.out.low Y h).2; omega
        · have := HN.out.pl.lt; omega)).trans hYn
      have hX3 : Box W3 Bx 47 (stepC bs none 0 0) := by have := HT.out.box; rw [HBS.out] at this; exact this
      have HYB : Hid (Y ≠ Bx) := hid (by have := HT.out.lo; have := HSZ.out; have := HYE.out; omega)
      have HCl := hid (clonei_any pa ps.length pc ps W3 hpI HPS.out)
      have p1 := hK3.box.v (k := 1) rfl
      have HK3 := hid hK3; have HY3 := hid hY3; have HX3 := hid hX3; have HP3 := hid hP3; have HA3' := hid hA3; have HK3k := hid hk3; have HS3 := hid hs3; have HO3 := hid ho3
      clear hK3 hpI hpl hpm hYn hY3 hX3 hP3 hA3 hk3 hs3 ho3
      go_wp2_with (first
        | (go_at_call 87; refine HCl.out.mono ?_; rintro e w4 ⟨q, d, rfl, hI4, hd4, hm4, hb4, hl4⟩
           have Y4 := HY3.out.below hb4; have X4 := HX3.out.below hb4
           have X5 : Box (w4.setCell ⟨Y, 1, none⟩ (.slice q ps.length d)) Bx 47 (stepC bs none 0 0) := (set_far (Ne.symm HYB.out) _).trans X4
           have Y5 := Y4.set 1 (.slice q ps.length d)
           have z1 := Y4.v (k := 1) rfl; have zf1 := Y4.f 1; have y1 := Y5.v (k := 1) rfl; have x1 := X5.v (k := 1) rfl; have xf1 := X5.f 1
           have HI4 := hid hI4; have HD4 := hid hd4; have HM4 := hid hm4; have HB4 := hid hb4; have HL4 := hid hl4; have HY5 := hid Y5; have HX5 := hid X5
           clear hI4 hd4 hm4 hb4 hl4 Y4 X4 X5 Y5)
        | fail)
      obtain ⟨V6, hV6⟩ : ∃ V6, (w4.setCell ⟨Y, 1, none⟩ (.slice q ps.length d)).setCell ⟨Bx, 1, none⟩ (.slice q ps.length d) = V6 := ⟨_, rfl⟩
      have hk6 : ∀ z, z ≠ Y → z ≠ Bx → V6.heap[z]? = w4.heap[z]? := fun z h1 h2 => by rw [← hV6]; exact (set_far h2 _).trans (set_far h1 _)
      have hs6 : V6.heap.size = w4.heap.size := by rw [← hV6]; simp
      have hX6 : Box V6 Bx 47 #[.int .i64 bs.kind, .slice q ps.length d, .int .i64 bs.at_, .int .i64 bs.many, .int .i64 bs.sym] := by rw [← hV6]; exact HX5.out.set 1 _
      have hY6 : Box V6 Y 47 #[.int .i64 kd, .slice q ps.length d, .int .i64 at_, .int .i64 many, .int .i64 sym] := by rw [← hV6]; exact (set_far HYB.out _).trans HY5.out
      have hXl : ∀ z, X z → z ≠ Y ∧ z ≠ Bx := fun z hz => by have := (HK.out.low z hz).2; have := HT.out.lo; have := HSZ.out; have := HYE.out; exact ⟨by omega, by omega⟩
      have hK6 : Wk V6 X w0.heap.size B S n cap ps vs (.slice pa ps.length pc) sv bv := HK3.out.keep (fun z hz => (hk6 z (hXl z hz).1 (hXl z hz).2).trans (HB4.out.block z (HK3.out.low z hz).2)) (by rw [hs6]; exact HB4.out.size)
      have hfr6 : Fr (fun z => z = Y ∨ z = Bx) W3 V6 := by
        refine ⟨?_, fun z hz hn => (hk6 z (fun e => hn (.inl e)) (fun e => hn (.inr e))).trans (HB4.out.block z hz)⟩
        rw [← hV6]
        exact ((HB4.out.mono (Nat.zero_le _)).setCell (p := ⟨Y, 1, none⟩) (Nat.zero_le _) _).setCell (p := ⟨Bx, 1, none⟩) (Nat.zero_le _) _
      rw [hV6]
      have HS6 : Hid (∀ V, Fr (fun z => sv.ownBlock = some z ∨ bv.ownBlock = some z) V6 V → V.cell? ⟨B, 2, none⟩ = some sv ∧ V.cell? ⟨B, 3, none⟩ = some bv ∧ Box V Y 47 #[.int .i64 kd, .slice q ps.length d, .int .i64 at_, .int .i64 many, .int .i64 sym] ∧ Box V Bx 47 #[.int .i64 bs.kind, .slice q ps.length d, .int .i64 bs.at_, .int .i64 bs.many, .int .i64 bs.sym]) := hid (fun V hV => by
        have hB : V.heap[B]? = V6.heap[B]? := hV.same B hK6.box.lt (by
          rintro (e | e)
          · exact hK6.s_ne.1 B e rfl
          · exact hK6.s_ne.2 B e rfl)
        have hn : ∀ z, (sv.ownBlock = some z ∨ bv.ownBlock = some z) → z ≠ Y ∧ z ≠ Bx := fun z hz => hXl z (by
          rcases hz with e | e
          · exact hK6.sX z e
          · exact hK6.bX z e)
        exact ⟨(World.cell?_of_block (w := V6) hB).trans (hK6.box.v (k := 2) rfl), (World.cell?_of_block (w := V6) hB).trans (hK6.box.v (k := 3) rfl), (hV.same Y hY6.lt (fun h => (hn Y h).1 rfl)).trans hY6, (hV.same Bx hX6.lt (fun h => (hn Bx h).2 rfl)).trans hX6⟩)
      have HK6 := hid hK6; have HFR6 := hid hfr6; have HSZ6 := hid hs6; have HFRK := hid hk6
      have HLO6 : Hid (w0.heap.size ≤ V6.heap.size) := hid (by have h1 := HB.out.size; have h2 := HBW.out.size; have h3 := HT.out.fr.low.size; have h4 := HB4.out.size; omega)
      obtain ⟨i0, hi0, hz0, hz1, hz2⟩ := info_parts Tryz.info39b
      clear p1 z1 zf1 y1 x1 xf1 hk6 hs6 hX6 hY6 hXl hK6 hfr6 hV6 HCl
      go_cut [6] (fun v W9 => v = .bool false ∧ ∃ sv' bv', ApEnd V6 w0.heap.size B S n cap vs ⟨⟨ps, ⟨kd, at_, many, sym⟩, bs⟩, q, d⟩ (.slice pa ps.length pc) sv bv sv' bv' sv' bv' W9)
      case first =>
        refine region_mid (S := fun V => V.cell? ⟨B, 2, none⟩ = some sv ∧ V.cell? ⟨B, 3, none⟩ = some bv ∧ Box V Y 47 #[.int .i64 kd, .slice q ps.length d, .int .i64 at_, .int .i64 many, .int .i64 sym] ∧ Box V Bx 47 #[.int .i64 bs.kind, .slice q ps.length d, .int .i64 bs.at_, .int .i64 bs.many, .int .i64 bs.sym]) [5, 6, 7, 8, 12, 13, 14, 15] (by kernel_rfl) (HS6.out _ (Fr.of_below ((Below.refl _ V6).drew))) ?_
        intro hS
        refine plainM (i := 0) (v := (.pointer (some ⟨B, 0, none⟩))) rfl (by kernel_rfl) (by kernel_rfl) (by kernel_rfl) (by kernel_rfl) (fun _ _ _ h => h) (Or.inl ⟨by rfl, fun w' _ => ?_⟩) ?_
        · go_simp
        try simp only [Act.put, List.getElem_toArray, List.getElem_cons_zero, List.setIfInBounds_toArray, List.set_cons_zero, List.set_cons_succ]
        refine plainM (i := 1) (v := (.pointer (some ⟨B, 0, none⟩))) rfl (by kernel_rfl) (by kernel_rfl) (by kernel_rfl) (by kernel_rfl) (fun _ _ _ h => h) (Or.inl ⟨by rfl, fun w' _ => ?_⟩) ?_
        · go_simp
        try simp only [Act.put, List.getElem_toArray, List.getElem_cons_zero, List.getElem_cons_succ, List.setIfInBounds_toArray, List.set_cons_zero, List.set_cons_succ]
        refine plainM (i := 2) (v := (.pointer (some ⟨B, 0, none⟩))) rfl (by kernel_rfl) (by kernel_rfl) (by kernel_rfl) (by kernel_rfl) (fun _ _ _ h => h) (Or.inl ⟨by rfl, fun w' _ => ?_⟩) ?_
        · go_simp
        try simp only [Act.put, List.getElem_toArray, List.getElem_cons_zero, List.getElem_cons_succ, List.setIfInBounds_toArray, List.set_cons_zero, List.set_cons_succ]
        refine plainM (i := 3) (v := (.pointer (some ⟨B, 0, none⟩))) rfl (by kernel_rfl) (by kernel_rfl) (by kernel_rfl) (by kernel_rfl) (fun _ _ _ h => h) (Or.inl ⟨by rfl, fun w' _ => ?_⟩) ?_
        · go_simp
        try simp only [Act.put, List.getElem_toArray, List.getElem_cons_zero, List.getElem_cons_succ, List.setIfInBounds_toArray, List.set_cons_zero, List.set_cons_succ]
        refine plainM (i := 4) (v := (.pointer (some ⟨B, 2, none⟩))) rfl (by kernel_rfl) (by kernel_rfl) (by kernel_rfl) (by kernel_rfl) (fun _ _ _ h => h) (Or.inl ⟨by rfl, fun w' _ => ?_⟩) ?_
        · go_simp
        try simp only [Act.put, List.getElem_toArray, List.getElem_cons_zero, List.getElem_cons_succ, List.setIfInBounds_toArray, List.set_cons_zero, List.set_cons_succ]
        refine plainM (i := 9) (v := (.pointer (some ⟨B, 0, none⟩))) rfl (by kernel_rfl) (by kernel_rfl) (by kernel_rfl) (by kernel_rfl) (fun _ _ _ h => h) (Or.inl ⟨by rfl, fun w' _ => ?_⟩) ?_
        · go_simp
        try simp only [Act.put, List.getElem_toArray, List.getElem_cons_zero, List.getElem_cons_succ, List.setIfInBounds_toArray, List.set_cons_zero, List.set_cons_succ]
        refine plainM (i := 10) (v := (.pointer (some ⟨B, 0, none⟩))) rfl (by kernel_rfl) (by kernel_rfl) (by kernel_rfl) (by kernel_rfl) (fun _ _ _ h => h) (Or.inl ⟨by rfl, fun w' _ => ?_⟩) ?_
        · go_simp
        try simp only [Act.put, List.getElem_toArray, List.getElem_cons_zero, List.getElem_cons_succ, List.setIfInBounds_toArray, List.set_cons_zero, List.set_cons_succ]
        refine plainM (i := 11) (v := (.pointer (some ⟨B, 3, none⟩))) rfl (by kernel_rfl) (by kernel_rfl) (by kernel_rfl) (by kernel_rfl) (fun _ _ _ h => h) (Or.inl ⟨by rfl, fun w' _ => ?_⟩) ?_
        · go_simp
        try simp only [Act.put, List.getElem_toArray, List.getElem_cons_zero, List.getElem_cons_succ, List.setIfInBounds_toArray, List.set_cons_zero, List.set_cons_succ]
        refine takeM (i := 5) (v := sv) rfl (by kernel_rfl) (by kernel_rfl) (by kernel_rfl) (by kernel_rfl) (fun _ _ _ h => h) (Or.inl ⟨by rfl, fun w' hw' => ?_⟩) hS ?_
        · have y0 := hw'.1; go_simp
        try simp only [Act.put, List.getElem_toArray, List.getElem_cons_zero, List.getElem_cons_succ, List.setIfInBounds_toArray, List.set_cons_zero, List.set_cons_succ]
        refine takeM (i := 6) (v := (.agg #[.int .i64 kd, .slice q ps.length d, .int .i64 at_, .int .i64 many, .int .i64 sym])) rfl (by kernel_rfl) (by kernel_rfl) (by kernel_rfl) (by kernel_rfl) (fun _ _ _ h => h) (Or.inl ⟨by rfl, fun w' hw' => ?_⟩) hS ?_
        · have z0 := hw'.2.2.1.v (k := 0) rfl; have z1 := hw'.2.2.1.v (k := 1) rfl; have z2 := hw'.2.2.1.v (k := 2) rfl; have z3 := hw'.2.2.1.v (k := 3) rfl; have z4 := hw'.2.2.1.v (k := 4) rfl; go_simp
        try simp only [Act.put, List.getElem_toArray, List.getElem_cons_zero, List.getElem_cons_succ, List.setIfInBounds_toArray, List.set_cons_zero, List.set_cons_succ]
        refine takeM (i := 12) (v := bv) rfl (by kernel_rfl) (by kernel_rfl) (by kernel_rfl) (by kernel_rfl) (fun _ _ _ h => h) (Or.inl ⟨by rfl, fun w' hw' => ?_⟩) hS ?_
        · have y0 := hw'.2.1; go_simp
        try simp only [Act.put, List.getElem_toArray, List.getElem_cons_zero, List.getElem_cons_succ, List.setIfInBounds_toArray, List.set_cons_zero, List.set_cons_succ]
        refine readyM (rs := [7, 13]) (by kernel_rfl) (by simp) ?_
        refine (ReadyM.cons rfl (fun K hK => ?_) (ReadyM.cons rfl (fun K hK => ?_) ReadyM.nil))
        · go_simp
          refine hK.out _ _ (HS6.out _ (Fr.of_below ((alloc_below0 V6 (.cells #[.int .i64 kd, .slice q ps.length d, .int .i64 at_, .int .i64 many, .int .i64 sym] 47)).drew))) (fun hS => ?_)
          clear hK K
          try simp only [Act.put, List.getElem_toArray, List.getElem_cons_zero, List.getElem_cons_succ, List.setIfInBounds_toArray, List.set_cons_zero, List.set_cons_succ]
          refine readyM (rs := [8, 13]) (by kernel_rfl) (by simp) ?_
          refine (ReadyM.cons rfl (fun K hK => ?_) (ReadyM.cons rfl (fun K hK => ?_) ReadyM.nil))
          · refine step_append_lies _ (by rfl) _ _ 27 (by rfl) w0.heap.size 47 i0 _ 5 56 Tryz.underlying27 hi0 hz0 hz1 hz2 rfl (by decide) sv vs.length (vs.flatMap wsC) (by rfl) (owns_by HK6.out.steps (fun z e => (((alloc_below0 V6 (.cells #[.int .i64 kd, .slice q ps.length d, .int .i64 at_, .int .i64 many, .int .i64 sym] 47)).drew)).block z (owns_lt HK6.out.steps e))) ⟨V6.heap.size, 0, none⟩ 1 1 (wsC ⟨⟨ps, ⟨kd, at_, many, sym⟩, bs⟩, q, d⟩) (by rfl) rfl (World.news_of_block (Box.new V6 47 _)) (by intro u hu; simp only [wsC, List.mem_cons, List.not_mem_nil, or_false] at hu; rcases hu with rfl | rfl | rfl | rfl | rfl <;> rfl) (by decide) (by unfold maxLen; have := HVS.out; omega) (by have := HVS.out; omega) (by have := HLO6.out; have := (((alloc_below0 V6 (.cells #[.int .i64 kd, .slice q ps.length d, .int .i64 at_, .int .i64 many, .int .i64 sym] 47)).drew)).size; omega) _ rfl ?_
            intro g3 cap3 w3 hown3 hgrow3 hat3 hlt3
            have HF3 : Hid (Fr (fun z => sv.ownBlock = some z ∨ bv.ownBlock = some z) V6 w3) := hid ((Fr.of_below ((alloc_below0 V6 (.cells #[.int .i64 kd, .slice q ps.length d, .int .i64 at_, .int .i64 many, .int .i64 sym] 47)).drew)).trans ((fr_grown hgrow3).mono (fun z hz => .inl hz)))
            have HG3 := hid hgrow3; have HO3 := hid hown3; have HL3 := hid hlt3
            have HA3 : Hid (sv.ownBlock = some g3 ∨ V6.heap.size ≤ g3) := hid (hat3.imp id (fun e => by rw [e]; exact (((alloc_below0 V6 (.cells #[.int .i64 kd, .slice q ps.length d, .int .i64 at_, .int .i64 many, .int .i64 sym] 47)).drew)).size))
            clear hown3 hgrow3 hat3 hlt3
            refine hK.out _ _ (HS6.out _ HF3.out) (fun hS => ?_)
            clear hK K
            try simp only [Act.put, List.getElem_toArray, List.getElem_cons_zero, List.getElem_cons_succ, List.setIfInBounds_toArray, List.set_cons_zero, List.set_cons_succ]
            refine readyM (rs := [13]) (by kernel_rfl) (by simp) ?_
            refine (ReadyM.cons rfl (fun K hK => ?_) ReadyM.nil)
            have z0 := hS.2.2.2.v (k := 0) rfl; have z1 := hS.2.2.2.v (k := 1) rfl; have z2 := hS.2.2.2.v (k := 2) rfl; have z3 := hS.2.2.2.v (k := 3) rfl; have z4 := hS.2.2.2.v (k := 4) rfl
            go_simp
            refine hK.out _ _ hS (fun hS => ?_)
            clear hK K z0 z1 z2 z3 z4
            try simp only [Act.put, List.getElem_toArray, List.getElem_cons_zero, List.getElem_cons_succ, List.setIfInBounds_toArray, List.set_cons_zero, List.set_cons_succ]
            refine readyM (rs := [14]) (by kernel_rfl) (by simp) ?_
            refine (ReadyM.cons rfl (fun K hK => ?_) ReadyM.nil)
            go_simp
            refine hK.out _ _ (HS6.out _ (HF3.out.trans (Fr.of_below (alloc_below0 w3 (.cells #[.int .i64 bs.kind, .slice q ps.length d, .int .i64 bs.at_, .int .i64 bs.many, .int .i64 bs.sym] 47))))) (fun hS => ?_)
            clear hK K
            try simp only [Act.put, List.getElem_toArray, List.getElem_cons_zero, List.getElem_cons_succ, List.setIfInBounds_toArray, List.set_cons_zero, List.set_cons_succ]
            refine readyM (rs := [15]) (by kernel_rfl) (by simp) ?_
            refine (ReadyM.cons rfl (fun K hK => ?_) ReadyM.nil)
            refine step_append_lies _ (by rfl) _ _ 27 (by rfl) w0.heap.size 47 i0 _ 5 56 Tryz.underlying27 hi0 hz0 hz1 hz2 rfl (by decide) bv vs.length (vs.flatMap wbC) (by rfl) (owns_by HK6.out.backs (fun z e => ((alloc_below0 w3 (.cells #[.int .i64 bs.kind, .slice q ps.length d, .int .i64 bs.at_, .int .i64 bs.many, .int .i64 bs.sym] 47)).block z (Nat.lt_of_lt_of_le (owns_lt HK6.out.backs e) HF3.out.low.size)).trans ((HG3.out.block z (Nat.lt_of_lt_of_le (owns_lt HK6.out.backs e) (((alloc_below0 V6 (.cells #[.int .i64 kd, .slice q ps.length d, .int .i64 at_, .int .i64 many, .int .i64 sym] 47)).drew)).size) (fun e2 => HK6.out.ne z e2.symm e)).trans ((((alloc_below0 V6 (.cells #[.int .i64 kd, .slice q ps.length d, .int .i64 at_, .int .i64 many, .int .i64 sym] 47)).drew)).block z (owns_lt HK6.out.backs e))))) ⟨w3.heap.size, 0, none⟩ 1 1 (wbC ⟨⟨ps, ⟨kd, at_, many, sym⟩, bs⟩, q, d⟩) (by rfl) rfl (World.news_of_block (Box.new w3 47 _)) (by intro u hu; simp only [wbC, List.mem_cons, List.not_mem_nil, or_false] at hu; rcases hu with rfl | rfl | rfl | rfl | rfl <;> rfl) (by decide) (by unfold maxLen; have := HVS.out; omega) (by have := HVS.out; omega) (by have := HLO6.out; have := (show Fr _ V6 (w3.alloc (.cells #[.int .i64 bs.kind, .slice q ps.length d, .int .i64 bs.at_, .int .i64 bs.many, .int .i64 bs.sym] 47)) from HF3.out.trans (Fr.of_below (alloc_below0 w3 (.cells #[.int .i64 bs.kind, .slice q ps.length d, .int .i64 bs.at_, .int .i64 bs.many, .int .i64 bs.sym] 47)))).low.size; omega) _ rfl ?_
            intro g4 cap4 w4' hown4 hgrow4 hat4 hlt4
            have HF4 : Hid (Fr (fun z => sv.ownBlock = some z ∨ bv.ownBlock = some z) V6 w4') := hid ((show Fr _ V6 (w3.alloc (.cells #[.int .i64 bs.kind, .slice q ps.length d, .int .i64 bs.at_, .int .i64 bs.many, .int .i64 bs.sym] 47)) from HF3.out.trans (Fr.of_below (alloc_below0 w3 (.cells #[.int .i64 bs.kind, .slice q ps.length d, .int .i64 bs.at_, .int .i64 bs.many, .int .i64 bs.sym] 47)))).trans ((fr_grown hgrow4).mono (fun z hz => .inr hz)))
            have HO3' := hid (ap_keep (show Fr _ V6 w3 from HF3.out) HK6.out HO3.out HA3.out (alloc_below0 w3 (.cells #[.int .i64 bs.kind, .slice q ps.length d, .int .i64 bs.at_, .int .i64 bs.many, .int .i64 bs.sym] 47)) hgrow4)
            have HE6 := hid (ApEnd.of HK6.out HF4.out HO3'.out hown4 HA3.out (hat4.imp id (fun e => by rw [e]; exact (show Fr _ V6 (w3.alloc (.cells #[.int .i64 bs.kind, .slice q ps.length d, .int .i64 bs.at_, .int .i64 bs.many, .int .i64 bs.sym] 47)) from HF3.out.trans (Fr.of_below (alloc_below0 w3 (.cells #[.int .i64 bs.kind, .slice q ps.length d, .int .i64 bs.at_, .int .i64 bs.many, .int .i64 bs.sym] 47)))).low.size)) (ap_ne HK6.out HA3.out HL3.out hat4 (by rw [World.size_alloc]; omega)))
            clear hown4 hgrow4 hat4 hlt4
            refine hK.out _ _ (HS6.out _ HF4.out) (fun hS => ?_)
            clear hK K hS
            try simp only [Act.put, List.getElem_toArray, List.getElem_cons_zero, List.getElem_cons_succ, List.setIfInBounds_toArray, List.set_cons_zero, List.set_cons_succ]
            have q2 := HE6.out.box.v (k := 2) rfl; have q3 := HE6.out.box.v (k := 3) rfl; have qf2 := HE6.out.box.f 2; have qf3 := HE6.out.box.f 3
            refine plainM (i := 16) (v := (.pointer (some ⟨B, 0, none⟩))) rfl (by kernel_rfl) (by kernel_rfl) (by kernel_rfl) (by kernel_rfl) (fun _ _ _ h => h) (Or.inl ⟨by rfl, fun w' _ => ?_⟩) ?_
            · go_simp
            try simp only [Act.put, List.getElem_toArray, List.getElem_cons_zero, List.getElem_cons_succ, List.setIfInBounds_toArray, List.set_cons_zero, List.set_cons_succ]
            refine plainM (i := 17) (v := (.pointer (some ⟨B, 2, none⟩))) rfl (by kernel_rfl) (by kernel_rfl) (by kernel_rfl) (by kernel_rfl) (fun _ _ _ h => h) (Or.inl ⟨by rfl, fun w' _ => ?_⟩) ?_
            · go_simp
            try simp only [Act.put, List.getElem_toArray, List.getElem_cons_zero, List.getElem_cons_succ, List.setIfInBounds_toArray, List.set_cons_zero, List.set_cons_succ]
            refine readyM (rs := [18]) (by kernel_rfl) (by simp) ?_
            refine ReadyM.last rfl (by kernel_rfl) (fun K hK => ?_)
            go_simp
            refine hK.out _ _ ?_
            clear hK K
            try simp only [Act.put, List.getElem_toArray, List.getElem_cons_zero, List.getElem_cons_succ, List.setIfInBounds_toArray, List.set_cons_zero, List.set_cons_succ]
            refine plainM (i := 19) (v := (.pointer (some ⟨B, 0, none⟩))) rfl (by kernel_rfl) (by kernel_rfl) (by kernel_rfl) (by kernel_rfl) (fun _ _ _ h => h) (Or.inl ⟨by rfl, fun w' _ => ?_⟩) ?_
            · go_simp
            try simp only [Act.put, List.getElem_toArray, List.getElem_cons_zero, List.getElem_cons_succ, List.setIfInBounds_toArray, List.set_cons_zero, List.set_cons_succ]
            refine plainM (i := 20) (v := (.pointer (some ⟨B, 3, none⟩))) rfl (by kernel_rfl) (by kernel_rfl) (by kernel_rfl) (by kernel_rfl) (fun _ _ _ h => h) (Or.inl ⟨by rfl, fun w' _ => ?_⟩) ?_
            · go_simp
            try simp only [Act.put, List.getElem_toArray, List.getElem_cons_zero, List.getElem_cons_succ, List.setIfInBounds_toArray, List.set_cons_zero, List.set_cons_succ]
            have qf3' : (w4'.setCell ⟨B, 2, none⟩ (.slice (some ⟨g3, 0, none⟩) (vs.length + 1) cap3)).frozen? ⟨B, 3, none⟩ = false := (HE6.out.box.set 2 _).f 3
            have q3' := (HE6.out.box.set 2 (.slice (some ⟨g3, 0, none⟩) (vs.length + 1) cap3)).v (k := 3) rfl
            refine readyM (rs := [21]) (by kernel_rfl) (by simp) ?_
            refine ReadyM.last rfl (by kernel_rfl) (fun K hK => ?_)
            go_simp
            refine hK.out _ _ ?_
            clear hK K
            try simp only [Act.put, List.getElem_toArray, List.getElem_cons_zero, List.getElem_cons_succ, List.setIfInBounds_toArray, List.set_cons_zero, List.set_cons_succ]
            refine doneM (by kernel_rfl) ?_ _
            clear q2 q3 qf2 qf3 qf3' q3'
            go_wp2_with fail
            go_meet
            exact ⟨rfl, _, _, HE6.out.fin⟩
          · have z0 := hS.2.2.2.v (k := 0) rfl; have z1 := hS.2.2.2.v (k := 1) rfl; have z2 := hS.2.2.2.v (k := 2) rfl; have z3 := hS.2.2.2.v (k := 3) rfl; have z4 := hS.2.2.2.v (k := 4) rfl
            go_simp
            refine hK.out _ _ hS (fun hS => ?_)
            clear hK K z0 z1 z2 z3 z4
            try simp only [Act.put, List.getElem_toArray, List.getElem_cons_zero, List.getElem_cons_succ, List.setIfInBounds_toArray, List.set_cons_zero, List.set_cons_succ]
            refine readyM (rs := [8, 14]) (by kernel_rfl) (by simp) ?_
            refine (ReadyM.cons rfl (fun K hK => ?_) (ReadyM.cons rfl (fun K hK => ?_) ReadyM.nil))
            · refine step_append_lies _ (by rfl) _ _ 27 (by rfl) w0.heap.size 47 i0 _ 5 56 Tryz.underlying27 hi0 hz0 hz1 hz2 rfl (by decide) sv vs.length (vs.flatMap wsC) (by rfl) (owns_by HK6.out.steps (fun z e => (((alloc_below0 V6 (.cells #[.int .i64 kd, .slice q ps.length d, .int .i64 at_, .int .i64 many, .int .i64 sym] 47)).drew)).block z (owns_lt HK6.out.steps e))) ⟨V6.heap.size, 0, none⟩ 1 1 (wsC ⟨⟨ps, ⟨kd, at_, many, sym⟩, bs⟩, q, d⟩) (by rfl) rfl (World.news_of_block (Box.new V6 47 _)) (by intro u hu; simp only [wsC, List.mem_cons, List.not_mem_nil, or_false] at hu; rcases hu with rfl | rfl | rfl | rfl | rfl <;> rfl) (by decide) (by unfold maxLen; have := HVS.out; omega) (by have := HVS.out; omega) (by have := HLO6.out; have := (((alloc_below0 V6 (.cells #[.int .i64 kd, .slice q ps.length d, .int .i64 at_, .int .i64 many, .int .i64 sym] 47)).drew)).size; omega) _ rfl ?_
              intro g3 cap3 w3 hown3 hgrow3 hat3 hlt3
              have HF3 : Hid (Fr (fun z => sv.ownBlock = some z ∨ bv.ownBlock = some z) V6 w3) := hid ((Fr.of_below ((alloc_below0 V6 (.cells #[.int .i64 kd, .slice q ps.length d, .int .i64 at_, .int .i64 many, .int .i64 sym] 47)).drew)).trans ((fr_grown hgrow3).mono (fun z hz => .inl hz)))
              have HG3 := hid hgrow3; have HO3 := hid hown3; have HL3 := hid hlt3
              have HA3 : Hid (sv.ownBlock = some g3 ∨ V6.heap.size ≤ g3) := hid (hat3.imp id (fun e => by rw [e]; exact (((alloc_below0 V6 (.cells #[.int .i64 kd, .slice q ps.length d, .int .i64 at_, .int .i64 many, .int .i64 sym] 47)).drew)).size))
              clear hown3 hgrow3 hat3 hlt3
              refine hK.out _ _ (HS6.out _ HF3.out) (fun hS => ?_)
              clear hK K
              try simp only [Act.put, List.getElem_toArray, List.getElem_cons_zero, List.getElem_cons_succ, List.setIfInBounds_toArray, List.set_cons_zero, List.set_cons_succ]
              refine readyM (rs := [14]) (by kernel_rfl) (by simp) ?_
              refine (ReadyM.cons rfl (fun K hK => ?_) ReadyM.nil)
              go_simp
              refine hK.out _ _ (HS6.out _ (HF3.out.trans (Fr.of_below (alloc_below0 w3 (.cells #[.int .i64 bs.kind, .slice q ps.length d, .int .i64 bs.at_, .int .i64 bs.many, .int .i64 bs.sym] 47))))) (fun hS => ?_)
              clear hK K
              try simp only [Act.put, List.getElem_toArray, List.getElem_cons_zero, List.getElem_cons_succ, List.setIfInBounds_toArray, List.set_cons_zero, List.set_cons_succ]
              refine readyM (rs := [15]) (by kernel_rfl) (by simp) ?_
              refine (ReadyM.cons rfl (fun K hK => ?_) ReadyM.nil)
              refine step_append_lies _ (by rfl) _ _ 27 (by rfl) w0.heap.size 47 i0 _ 5 56 Tryz.underlying27 hi0 hz0 hz1 hz2 rfl (by decide) bv vs.length (vs.flatMap wbC) (by rfl) (owns_by HK6.out.backs (fun z e => ((alloc_below0 w3 (.cells #[.int .i64 bs.kind, .slice q ps.length d, .int .i64 bs.at_, .int .i64 bs.many, .int .i64 bs.sym] 47)).block z (Nat.lt_of_lt_of_le (owns_lt HK6.out.backs e) HF3.out.low.size)).trans ((HG3.out.block z (Nat.lt_of_lt_of_le (owns_lt HK6.out.backs e) (((alloc_below0 V6 (.cells #[.int .i64 kd, .slice q ps.length d, .int .i64 at_, .int .i64 many, .int .i64 sym] 47)).drew)).size) (fun e2 => HK6.out.ne z e2.symm e)).trans ((((alloc_below0 V6 (.cells #[.int .i64 kd, .slice q ps.length d, .int .i64 at_, .int .i64 many, .int .i64 sym] 47)).drew)).block z (owns_lt HK6.out.backs e))))) ⟨w3.heap.size, 0, none⟩ 1 1 (wbC ⟨⟨ps, ⟨kd, at_, many, sym⟩, bs⟩, q, d⟩) (by rfl) rfl (World.news_of_block (Box.new w3 47 _)) (by intro u hu; simp only [wbC, List.mem_cons, List.not_mem_nil, or_false] at hu; rcases hu with rfl | rfl | rfl | rfl | rfl <;> rfl) (by decide) (by unfold maxLen; have := HVS.out; omega) (by have := HVS.out; omega) (by have := HLO6.out; have := (show Fr _ V6 (w3.alloc (.cells #[.int .i64 bs.kind, .slice q ps.length d, .int .i64 bs.at_, .int .i64 bs.many, .int .i64 bs.sym] 47)) from HF3.out.trans (Fr.of_below (alloc_below0 w3 (.cells #[.int .i64 bs.kind, .slice q ps.length d, .int .i64 bs.at_, .int .i64 bs.many, .int .i64 bs.sym] 47)))).low.size; omega) _ rfl ?_
              intro g4 cap4 w4' hown4 hgrow4 hat4 hlt4
              have HF4 : Hid (Fr (fun z => sv.ownBlock = some z ∨ bv.ownBlock = some z) V6 w4') := hid ((show Fr _ V6 (w3.alloc (.cells #[.int .i64 bs.kind, .slice q ps.length d, .int .i64 bs.at_, .int .i64 bs.many, .int .i64 bs.sym] 47)) from HF3.out.trans (Fr.of_below (alloc_below0 w3 (.cells #[.int .i64 bs.kind, .slice q ps.length d, .int .i64 bs.at_, .int .i64 bs.many, .int .i64 bs.sym] 47)))).trans ((fr_grown hgrow4).mono (fun z hz => .inr hz)))
              have HO3' := hid (ap_keep (show Fr _ V6 w3 from HF3.out) HK6.out HO3.out HA3.out (alloc_below0 w3 (.cells #[.int .i64 bs.kind, .slice q ps.length d, .int .i64 bs.at_, .int .i64 bs.many, .int .i64 bs.sym] 47)) hgrow4)
              have HE6 := hid (ApEnd.of HK6.out HF4.out HO3'.out hown4 HA3.out (hat4.imp id (fun e => by rw [e]; exact (show Fr _ V6 (w3.alloc (.cells #[.int .i64 bs.kind, .slice q ps.length d, .int .i64 bs.at_, .int .i64 bs.many, .int .i64 bs.sym] 47)) from HF3.out.trans (Fr.of_below (alloc_below0 w3 (.cells #[.int .i64 bs.kind, .slice q ps.length d, .int .i64 bs.at_, .int .i64 bs.many, .int .i64 bs.sym] 47)))).low.size)) (ap_ne HK6.out HA3.out HL3.out hat4 (by rw [World.size_alloc]; omega)))
              clear hown4 hgrow4 hat4 hlt4
              refine hK.out _ _ (HS6.out _ HF4.out) (fun hS => ?_)
              clear hK K hS
              try simp only [Act.put, List.getElem_toArray, List.getElem_cons_zero, List.getElem_cons_succ, List.setIfInBounds_toArray, List.set_cons_zero, List.set_cons_succ]
              have q2 := HE6.out.box.v (k := 2) rfl; have q3 := HE6.out.box.v (k := 3) rfl; have qf2 := HE6.out.box.f 2; have qf3 := HE6.out.box.f 3
              refine plainM (i := 16) (v := (.pointer (some ⟨B, 0, none⟩))) rfl (by kernel_rfl) (by kernel_rfl) (by kernel_rfl) (by kernel_rfl) (fun _ _ _ h => h) (Or.inl ⟨by rfl, fun w' _ => ?_⟩) ?_
              · go_simp
              try simp only [Act.put, List.getElem_toArray, List.getElem_cons_zero, List.getElem_cons_succ, List.setIfInBounds_toArray, List.set_cons_zero, List.set_cons_succ]
              refine plainM (i := 17) (v := (.pointer (some ⟨B, 2, none⟩))) rfl (by kernel_rfl) (by kernel_rfl) (by kernel_rfl) (by kernel_rfl) (fun _ _ _ h => h) (Or.inl ⟨by rfl, fun w' _ => ?_⟩) ?_
              · go_simp
              try simp only [Act.put, List.getElem_toArray, List.getElem_cons_zero, List.getElem_cons_succ, List.setIfInBounds_toArray, List.set_cons_zero, List.set_cons_succ]
              refine readyM (rs := [18]) (by kernel_rfl) (by simp) ?_
              refine ReadyM.last rfl (by kernel_rfl) (fun K hK => ?_)
              go_simp
              refine hK.out _ _ ?_
              clear hK K
              try simp only [Act.put, List.getElem_toArray, List.getElem_cons_zero, List.getElem_cons_succ, List.setIfInBounds_toArray, List.set_cons_zero, List.set_cons_succ]
              refine plainM (i := 19) (v := (.pointer (some ⟨B, 0, none⟩))) rfl (by kernel_rfl) (by kernel_rfl) (by kernel_rfl) (by kernel_rfl) (fun _ _ _ h => h) (Or.inl ⟨by rfl, fun w' _ => ?_⟩) ?_
              · go_simp
              try simp only [Act.put, List.getElem_toArray, List.getElem_cons_zero, List.getElem_cons_succ, List.setIfInBounds_toArray, List.set_cons_zero, List.set_cons_succ]
              refine plainM (i := 20) (v := (.pointer (some ⟨B, 3, none⟩))) rfl (by kernel_rfl) (by kernel_rfl) (by kernel_rfl) (by kernel_rfl) (fun _ _ _ h => h) (Or.inl ⟨by rfl, fun w' _ => ?_⟩) ?_
              · go_simp
              try simp only [Act.put, List.getElem_toArray, List.getElem_cons_zero, List.getElem_cons_succ, List.setIfInBounds_toArray, List.set_cons_zero, List.set_cons_succ]
              have qf3' : (w4'.setCell ⟨B, 2, none⟩ (.slice (some ⟨g3, 0, none⟩) (vs.length + 1) cap3)).frozen? ⟨B, 3, none⟩ = false := (HE6.out.box.set 2 _).f 3
              have q3' := (HE6.out.box.set 2 (.slice (some ⟨g3, 0, none⟩) (vs.length + 1) cap3)).v (k := 3) rfl
              refine readyM (rs := [21]) (by kernel_rfl) (by simp) ?_
              refine ReadyM.last rfl (by kernel_rfl) (fun K hK => ?_)
              go_simp
              refine hK.out _ _ ?_
              clear hK K
              try simp only [Act.put, List.getElem_toArray, List.getElem_cons_zero, List.getElem_cons_succ, List.setIfInBounds_toArray, List.set_cons_zero, List.set_cons_succ]
              refine doneM (by kernel_rfl) ?_ _
              clear q2 q3 qf2 qf3 qf3' q3'
              go_wp2_with fail
              go_meet
              exact ⟨rfl, _, _, HE6.out.fin⟩
            · go_simp
              refine hK.out _ _ (HS6.out _ (Fr.of_below (((alloc_below0 V6 (.cells #[.int .i64 kd, .slice q ps.length d, .int .i64 at_, .int .i64 many, .int .i64 sym] 47)).alloc (by simp) (.cells #[.int .i64 bs.kind, .slice q ps.length d, .int .i64 bs.at_, .int .i64 bs.many, .int .i64 bs.sym] 47)).drew))) (fun hS => ?_)
              clear hK K
              try simp only [Act.put, List.getElem_toArray, List.getElem_cons_zero, List.getElem_cons_succ, List.setIfInBounds_toArray, List.set_cons_zero, List.set_cons_succ]
              refine readyM (rs := [8]) (by kernel_rfl) (by simp) ?_
              refine (ReadyM.cons rfl (fun K hK => ?_) ReadyM.nil)
              refine step_append_lies _ (by rfl) _ _ 27 (by rfl) w0.heap.size 47 i0 _ 5 56 Tryz.underlying27 hi0 hz0 hz1 hz2 rfl (by decide) sv vs.length (vs.flatMap wsC) (by rfl) (owns_by HK6.out.steps (fun z e => ((((alloc_below0 V6 (.cells #[.int .i64 kd, .slice q ps.length d, .int .i64 at_, .int .i64 many, .int .i64 sym] 47)).alloc (by simp) (.cells #[.int .i64 bs.kind, .slice q ps.length d, .int .i64 bs.at_, .int .i64 bs.many, .int .i64 bs.sym] 47)).drew)).block z (owns_lt HK6.out.steps e))) ⟨V6.heap.size, 0, none⟩ 1 1 (wsC ⟨⟨ps, ⟨kd, at_, many, sym⟩, bs⟩, q, d⟩) (by rfl) rfl (World.news_of_block ((Box.new V6 47 _).over _)) (by intro u hu; simp only [wsC, List.mem_cons, List.not_mem_nil, or_false] at hu; rcases hu with rfl | rfl | rfl | rfl | rfl <;> rfl) (by decide) (by unfold maxLen; have := HVS.out; omega) (by have := HVS.out; omega) (by have := HLO6.out; have := ((((alloc_below0 V6 (.cells #[.int .i64 kd, .slice q ps.length d, .int .i64 at_, .int .i64 many, .int .i64 sym] 47)).alloc (by simp) (.cells #[.int .i64 bs.kind, .slice q ps.length d, .int .i64 bs.at_, .int .i64 bs.many, .int .i64 bs.sym] 47)).drew)).size; omega) _ rfl ?_
              intro g3 cap3 w3 hown3 hgrow3 hat3 hlt3
              have HF3 : Hid (Fr (fun z => sv.ownBlock = some z ∨ bv.ownBlock = some z) V6 w3) := hid ((Fr.of_below (((alloc_below0 V6 (.cells #[.int .i64 kd, .slice q ps.length d, .int .i64 at_, .int .i64 many, .int .i64 sym] 47)).alloc (by simp) (.cells #[.int .i64 bs.kind, .slice q ps.length d, .int .i64 bs.at_, .int .i64 bs.many, .int .i64 bs.sym] 47)).drew)).trans ((fr_grown hgrow3).mono (fun z hz => .inl hz)))
              have HG3 := hid hgrow3; have HO3 := hid hown3; have HL3 := hid hlt3
              have HA3 : Hid (sv.ownBlock = some g3 ∨ V6.heap.size ≤ g3) := hid (hat3.imp id (fun e => by rw [e]; exact ((((alloc_below0 V6 (.cells #[.int .i64 kd, .slice q ps.length d, .int .i64 at_, .int .i64 many, .int .i64 sym] 47)).alloc (by simp) (.cells #[.int .i64 bs.kind, .slice q ps.length d, .int .i64 bs.at_, .int .i64 bs.many, .int .i64 bs.sym] 47)).drew)).size))
              clear hown3 hgrow3 hat3 hlt3
              refine hK.out _ _ (HS6.out _ HF3.out) (fun hS => ?_)
              clear hK K
              try simp only [Act.put, List.getElem_toArray, List.getElem_cons_zero, List.getElem_cons_succ, List.setIfInBounds_toArray, List.set_cons_zero, List.set_cons_succ]
              refine readyM (rs := [15]) (by kernel_rfl) (by simp) ?_
              refine (ReadyM.cons rfl (fun K hK => ?_) ReadyM.nil)
              refine step_append_lies _ (by rfl) _ _ 27 (by rfl) w0.heap.size 47 i0 _ 5 56 Tryz.underlying27 hi0 hz0 hz1 hz2 rfl (by decide) bv vs.length (vs.flatMap wbC) (by rfl) (owns_by HK6.out.backs (fun z e => (HG3.out.block z (Nat.lt_of_lt_of_le (owns_lt HK6.out.backs e) ((((alloc_below0 V6 (.cells #[.int .i64 kd, .slice q ps.length d, .int .i64 at_, .int .i64 many, .int .i64 sym] 47)).alloc (by simp) (.cells #[.int .i64 bs.kind, .slice q ps.length d, .int .i64 bs.at_, .int .i64 bs.many, .int .i64 bs.sym] 47)).drew)).size) (fun e2 => HK6.out.ne z e2.symm e)).trans (((((alloc_below0 V6 (.cells #[.int .i64 kd, .slice q ps.length d, .int .i64 at_, .int .i64 many, .int .i64 sym] 47)).alloc (by simp) (.cells #[.int .i64 bs.kind, .slice q ps.length d, .int .i64 bs.at_, .int .i64 bs.many, .int .i64 bs.sym] 47)).drew)).block z (owns_lt HK6.out.backs e)))) ⟨V6.heap.size + 1, 0, none⟩ 1 1 (wbC ⟨⟨ps, ⟨kd, at_, many, sym⟩, bs⟩, q, d⟩) (by rfl) rfl (World.news_of_block ((HG3.out.block (V6.heap.size + 1) (by show _ < ((V6.alloc _).alloc _).heap.size; rw [World.size_alloc, World.size_alloc]; omega) (fun e => by have := owns_lt HK6.out.steps e.symm; omega)).trans (box_new (by rw [World.size_alloc]) 47 _))) (by intro u hu; simp only [wbC, List.mem_cons, List.not_mem_nil, or_false] at hu; rcases hu with rfl | rfl | rfl | rfl | rfl <;> rfl) (by decide) (by unfold maxLen; have := HVS.out; omega) (by have := HVS.out; omega) (by have := HLO6.out; have := (show Fr _ V6 w3 from HF3.out).low.size; omega) _ rfl ?_
              intro g4 cap4 w4' hown4 hgrow4 hat4 hlt4
              have HF4 : Hid (Fr (fun z => sv.ownBlock = some z ∨ bv.ownBlock = some z) V6 w4') := hid ((show Fr _ V6 w3 from HF3.out).trans ((fr_grown hgrow4).mono (fun z hz => .inr hz)))
              have HO3' := hid (ap_keep (show Fr _ V6 w3 from HF3.out) HK6.out HO3.out HA3.out (Below.refl _ w3) hgrow4)
              have HE6 := hid (ApEnd.of HK6.out HF4.out HO3'.out hown4 HA3.out (hat4.imp id (fun e => by rw [e]; exact (show Fr _ V6 w3 from HF3.out).low.size)) (ap_ne HK6.out HA3.out HL3.out hat4 (Nat.le_refl _)))
              clear hown4 hgrow4 hat4 hlt4
              refine hK.out _ _ (HS6.out _ HF4.out) (fun hS => ?_)
              clear hK K hS
              try simp only [Act.put, List.getElem_toArray, List.getElem_cons_zero, List.getElem_cons_succ, List.setIfInBounds_toArray, List.set_cons_zero, List.set_cons_succ]
              have q2 := HE6.out.box.v (k := 2) rfl; have q3 := HE6.out.box.v (k := 3) rfl; have qf2 := HE6.out.box.f 2; have qf3 := HE6.out.box.f 3
              refine plainM (i := 16) (v := (.pointer (some ⟨B, 0, none⟩))) rfl (by kernel_rfl) (by kernel_rfl) (by kernel_rfl) (by kernel_rfl) (fun _ _ _ h => h) (Or.inl ⟨by rfl, fun w' _ => ?_⟩) ?_
              · go_simp
              try simp only [Act.put, List.getElem_toArray, List.getElem_cons_zero, List.getElem_cons_succ, List.setIfInBounds_toArray, List.set_cons_zero, List.set_cons_succ]
              refine plainM (i := 17) (v := (.pointer (some ⟨B, 2, none⟩))) rfl (by kernel_rfl) (by kernel_rfl) (by kernel_rfl) (by kernel_rfl) (fun _ _ _ h => h) (Or.inl ⟨by rfl, fun w' _ => ?_⟩) ?_
              · go_simp
              try simp only [Act.put, List.getElem_toArray, List.getElem_cons_zero, List.getElem_cons_succ, List.setIfInBounds_toArray, List.set_cons_zero, List.set_cons_succ]
              refine readyM (rs := [18]) (by kernel_rfl) (by simp) ?_
              refine ReadyM.last rfl (by kernel_rfl) (fun K hK => ?_)
              go_simp
              refine hK.out _ _ ?_
              clear hK K
              try simp only [Act.put, List.getElem_toArray, List.getElem_cons_zero, List.getElem_cons_succ, List.setIfInBounds_toArray, List.set_cons_zero, List.set_cons_succ]
              refine plainM (i := 19) (v := (.pointer (some ⟨B, 0, none⟩))) rfl (by kernel_rfl) (by kernel_rfl) (by kernel_rfl) (by kernel_rfl) (fun _ _ _ h => h) (Or.inl ⟨by rfl, fun w' _ => ?_⟩) ?_
              · go_simp
              try simp only [Act.put, List.getElem_toArray, List.getElem_cons_zero, List.getElem_cons_succ, List.setIfInBounds_toArray, List.set_cons_zero, List.set_cons_succ]
              refine plainM (i := 20) (v := (.pointer (some ⟨B, 3, none⟩))) rfl (by kernel_rfl) (by kernel_rfl) (by kernel_rfl) (by kernel_rfl) (fun _ _ _ h => h) (Or.inl ⟨by rfl, fun w' _ => ?_⟩) ?_
              · go_simp
              try simp only [Act.put, List.getElem_toArray, List.getElem_cons_zero, List.getElem_cons_succ, List.setIfInBounds_toArray, List.set_cons_zero, List.set_cons_succ]
              have qf3' : (w4'.setCell ⟨B, 2, none⟩ (.slice (some ⟨g3, 0, none⟩) (vs.length + 1) cap3)).frozen? ⟨B, 3, none⟩ = false := (HE6.out.box.set 2 _).f 3
              have q3' := (HE6.out.box.set 2 (.slice (some ⟨g3, 0, none⟩) (vs.length + 1) cap3)).v (k := 3) rfl
              refine readyM (rs := [21]) (by kernel_rfl) (by simp) ?_
              refine ReadyM.last rfl (by kernel_rfl) (fun K hK => ?_)
              go_simp
              refine hK.out _ _ ?_
              clear hK K
              try simp only [Act.put, List.getElem_toArray, List.getElem_cons_zero, List.getElem_cons_succ, List.setIfInBounds_toArray, List.set_cons_zero, List.set_cons_succ]
              refine doneM (by kernel_rfl) ?_ _
              clear q2 q3 qf2 qf3 qf3' q3'
              go_wp2_with fail
              go_meet
              exact ⟨rfl, _, _, HE6.out.fin⟩
        · have z0 := hS.2.2.2.v (k := 0) rfl; have z1 := hS.2.2.2.v (k := 1) rfl; have z2 := hS.2.2.2.v (k := 2) rfl; have z3 := hS.2.2.2.v (k := 3) rfl; have z4 := hS.2.2.2.v (k := 4) rfl
          go_simp
          refine hK.out _ _ hS (fun hS => ?_)
          clear hK K z0 z1 z2 z3 z4
          try simp only [Act.put, List.getElem_toArray, List.getElem_cons_zero, List.getElem_cons_succ, List.setIfInBounds_toArray, List.set_cons_zero, List.set_cons_succ]
          refine readyM (rs := [7, 14]) (by kernel_rfl) (by simp) ?_
          refine (ReadyM.cons rfl (fun K hK => ?_) (ReadyM.cons rfl (fun K hK => ?_) ReadyM.nil))
          · go_simp
            refine hK.out _ _ (HS6.out _ (Fr.of_below ((alloc_below0 V6 (.cells #[.int .i64 kd, .slice q ps.length d, .int .i64 at_, .int .i64 many, .int .i64 sym] 47)).drew))) (fun hS => ?_)
            clear hK K
            try simp only [Act.put, List.getElem_toArray, List.getElem_cons_zero, List.getElem_cons_succ, List.setIfInBounds_toArray, List.set_cons_zero, List.set_cons_succ]
            refine readyM (rs := [8, 14]) (by kernel_rfl) (by simp) ?_
            refine (ReadyM.cons rfl (fun K hK => ?_) (ReadyM.cons rfl (fun K hK => ?_) ReadyM.nil))
            · refine step_append_lies _ (by rfl) _ _ 27 (by rfl) w0.heap.size 47 i0 _ 5 56 Tryz.underlying27 hi0 hz0 hz1 hz2 rfl (by decide) sv vs.length (vs.flatMap wsC) (by rfl) (owns_by HK6.out.steps (fun z e => (((alloc_below0 V6 (.cells #[.int .i64 kd, .slice q ps.length d, .int .i64 at_, .int .i64 many, .int .i64 sym] 47)).drew)).block z (owns_lt HK6.out.steps e))) ⟨V6.heap.size, 0, none⟩ 1 1 (wsC ⟨⟨ps, ⟨kd, at_, many, sym⟩, bs⟩, q, d⟩) (by rfl) rfl (World.news_of_block (Box.new V6 47 _)) (by intro u hu; simp only [wsC, List.mem_cons, List.not_mem_nil, or_false] at hu; rcases hu with rfl | rfl | rfl | rfl | rfl <;> rfl) (by decide) (by unfold maxLen; have := HVS.out; omega) (by have := HVS.out; omega) (by have := HLO6.out; have := (((alloc_below0 V6 (.cells #[.int .i64 kd, .slice q ps.length d, .int .i64 at_, .int .i64 many, .int .i64 sym] 47)).drew)).size; omega) _ rfl ?_
              intro g3 cap3 w3 hown3 hgrow3 hat3 hlt3
              have HF3 : Hid (Fr (fun z => sv.ownBlock = some z ∨ bv.ownBlock = some z) V6 w3) := hid ((Fr.of_below ((alloc_below0 V6 (.cells #[.int .i64 kd, .slice q ps.length d, .int .i64 at_, .int .i64 many, .int .i64 sym] 47)).drew)).trans ((fr_grown hgrow3).mono (fun z hz => .inl hz)))
              have HG3 := hid hgrow3; have HO3 := hid hown3; have HL3 := hid hlt3
              have HA3 : Hid (sv.ownBlock = some g3 ∨ V6.heap.size ≤ g3) := hid (hat3.imp id (fun e => by rw [e]; exact (((alloc_below0 V6 (.cells #[.int .i64 kd, .slice q ps.length d, .int .i64 at_, .int .i64 many, .int .i64 sym] 47)).drew)).size))
              clear hown3 hgrow3 hat3 hlt3
              refine hK.out _ _ (HS6.out _ HF3.out) (fun hS => ?_)
              clear hK K
              try simp only [Act.put, List.getElem_toArray, List.getElem_cons_zero, List.getElem_cons_succ, List.setIfInBounds_toArray, List.set_cons_zero, List.set_cons_succ]
              refine readyM (rs := [14]) (by kernel_rfl) (by simp) ?_
              refine (ReadyM.cons rfl (fun K hK => ?_) ReadyM.nil)
              go_simp
              refine hK.out _ _ (HS6.out _ (HF3.out.trans (Fr.of_below (alloc_below0 w3 (.cells #[.int .i64 bs.kind, .slice q ps.length d, .int .i64 bs.at_, .int .i64 bs.many, .int .i64 bs.sym] 47))))) (fun hS => ?_)
              clear hK K
              try simp only [Act.put, List.getElem_toArray, List.getElem_cons_zero, List.getElem_cons_succ, List.setIfInBounds_toArray, List.set_cons_zero, List.set_cons_succ]
              refine readyM (rs := [15]) (by kernel_rfl) (by simp) ?_
              refine (ReadyM.cons rfl (fun K hK => ?_) ReadyM.nil)
              refine step_append_lies _ (by rfl) _ _ 27 (by rfl) w0.heap.size 47 i0 _ 5 56 Tryz.underlying27 hi0 hz0 hz1 hz2 rfl (by decide) bv vs.length (vs.flatMap wbC) (by rfl) (owns_by HK6.out.backs (fun z e => ((alloc_below0 w3 (.cells #[.int .i64 bs.kind, .slice q ps.length d, .int .i64 bs.at_, .int .i64 bs.many, .int .i64 bs.sym] 47)).block z (Nat.lt_of_lt_of_le (owns_lt HK6.out.backs e) HF3.out.low.size)).trans ((HG3.out.block z (Nat.lt_of_lt_of_le (owns_lt HK6.out.backs e) (((alloc_below0 V6 (.cells #[.int .i64 kd, .slice q ps.length d, .int .i64 at_, .int .i64 many, .int .i64 sym] 47)).drew)).size) (fun e2 => HK6.out.ne z e2.symm e)).trans ((((alloc_below0 V6 (.cells #[.int .i64 kd, .slice q ps.length d, .int .i64 at_, .int .i64 many, .int .i64 sym] 47)).drew)).block z (owns_lt HK6.out.backs e))))) ⟨w3.heap.size, 0, none⟩ 1 1 (wbC ⟨⟨ps, ⟨kd, at_, many, sym⟩, bs⟩, q, d⟩) (by rfl) rfl (World.news_of_block (Box.new w3 47 _)) (by intro u hu; simp only [wbC, List.mem_cons, List.not_mem_nil, or_false] at hu; rcases hu with rfl | rfl | rfl | rfl | rfl <;> rfl) (by decide) (by unfold maxLen; have := HVS.out; omega) (by have := HVS.out; omega) (by have := HLO6.out; have := (show Fr _ V6 (w3.alloc (.cells #[.int .i64 bs.kind, .slice q ps.length d, .int .i64 bs.at_, .int .i64 bs.many, .int .i64 bs.sym] 47)) from HF3.out.trans (Fr.of_below (alloc_below0 w3 (.cells #[.int .i64 bs.kind, .slice q ps.length d, .int .i64 bs.at_, .int .i64 bs.many, .int .i64 bs.sym] 47)))).low.size; omega) _ rfl ?_
              intro g4 cap4 w4' hown4 hgrow4 hat4 hlt4
              have HF4 : Hid (Fr (fun z => sv.ownBlock = some z ∨ bv.ownBlock = some z) V6 w4') := hid ((show Fr _ V6 (w3.alloc (.cells #[.int .i64 bs.kind, .slice q ps.length d, .int .i64 bs.at_, .int .i64 bs.many, .int .i64 bs.sym] 47)) from HF3.out.trans (Fr.of_below (alloc_below0 w3 (.cells #[.int .i64 bs.kind, .slice q ps.length d, .int .i64 bs.at_, .int .i64 bs.many, .int .i64 bs.sym] 47)))).trans ((fr_grown hgrow4).mono (fun z hz => .inr hz)))
              have HO3' := hid (ap_keep (show Fr _ V6 w3 from HF3.out) HK6.out HO3.out HA3.out (alloc_below0 w3 (.cells #[.int .i64 bs.kind, .slice q ps.length d, .int .i64 bs.at_, .int .i64 bs.many, .int .i64 bs.sym] 47)) hgrow4)
              have HE6 := hid (ApEnd.of HK6.out HF4.out HO3'.out hown4 HA3.out (hat4.imp id (fun e => by rw [e]; exact (show Fr _ V6 (w3.alloc (.cells #[.int .i64 bs.kind, .slice q ps.length d, .int .i64 bs.at_, .int .i64 bs.many, .int .i64 bs.sym] 47)) from HF3.out.trans (Fr.of_below (alloc_below0 w3 (.cells #[.int .i64 bs.kind, .slice q ps.length d, .int .i64 bs.at_, .int .i64 bs.many, .int .i64 bs.sym] 47)))).low.size)) (ap_ne HK6.out HA3.out HL3.out hat4 (by rw [World.size_alloc]; omega)))
              clear hown4 hgrow4 hat4 hlt4
              refine hK.out _ _ (HS6.out _ HF4.out) (fun hS => ?_)
              clear hK K hS
              try simp only [Act.put, List.getElem_toArray, List.getElem_cons_zero, List.getElem_cons_succ, List.setIfInBounds_toArray, List.set_cons_zero, List.set_cons_succ]
              have q2 := HE6.out.box.v (k := 2) rfl; have q3 := HE6.out.box.v (k := 3) rfl; have qf2 := HE6.out.box.f 2; have qf3 := HE6.out.box.f 3
              refine plainM (i := 16) (v := (.pointer (some ⟨B, 0, none⟩))) rfl (by kernel_rfl) (by kernel_rfl) (by kernel_rfl) (by kernel_rfl) (fun _ _ _ h => h) (Or.inl ⟨by rfl, fun w' _ => ?_⟩) ?_
              · go_simp
              try simp only [Act.put, List.getElem_toArray, List.getElem_cons_zero, List.getElem_cons_succ, List.setIfInBounds_toArray, List.set_cons_zero, List.set_cons_succ]
              refine plainM (i := 17) (v := (.pointer (some ⟨B, 2, none⟩))) rfl (by kernel_rfl) (by kernel_rfl) (by kernel_rfl) (by kernel_rfl) (fun _ _ _ h => h) (Or.inl ⟨by rfl, fun w' _ => ?_⟩) ?_
              · go_simp
              try simp only [Act.put, List.getElem_toArray, List.getElem_cons_zero, List.getElem_cons_succ, List.setIfInBounds_toArray, List.set_cons_zero, List.set_cons_succ]
              refine readyM (rs := [18]) (by kernel_rfl) (by simp) ?_
              refine ReadyM.last rfl (by kernel_rfl) (fun K hK => ?_)
              go_simp
              refine hK.out _ _ ?_
              clear hK K
              try simp only [Act.put, List.getElem_toArray, List.getElem_cons_zero, List.getElem_cons_succ, List.setIfInBounds_toArray, List.set_cons_zero, List.set_cons_succ]
              refine plainM (i := 19) (v := (.pointer (some ⟨B, 0, none⟩))) rfl (by kernel_rfl) (by kernel_rfl) (by kernel_rfl) (by kernel_rfl) (fun _ _ _ h => h) (Or.inl ⟨by rfl, fun w' _ => ?_⟩) ?_
              · go_simp
              try simp only [Act.put, List.getElem_toArray, List.getElem_cons_zero, List.getElem_cons_succ, List.setIfInBounds_toArray, List.set_cons_zero, List.set_cons_succ]
              refine plainM (i := 20) (v := (.pointer (some ⟨B, 3, none⟩))) rfl (by kernel_rfl) (by kernel_rfl) (by kernel_rfl) (by kernel_rfl) (fun _ _ _ h => h) (Or.inl ⟨by rfl, fun w' _ => ?_⟩) ?_
              · go_simp
              try simp only [Act.put, List.getElem_toArray, List.getElem_cons_zero, List.getElem_cons_succ, List.setIfInBounds_toArray, List.set_cons_zero, List.set_cons_succ]
              have qf3' : (w4'.setCell ⟨B, 2, none⟩ (.slice (some ⟨g3, 0, none⟩) (vs.length + 1) cap3)).frozen? ⟨B, 3, none⟩ = false := (HE6.out.box.set 2 _).f 3
              have q3' := (HE6.out.box.set 2 (.slice (some ⟨g3, 0, none⟩) (vs.length + 1) cap3)).v (k := 3) rfl
              refine readyM (rs := [21]) (by kernel_rfl) (by simp) ?_
              refine ReadyM.last rfl (by kernel_rfl) (fun K hK => ?_)
              go_simp
              refine hK.out _ _ ?_
              clear hK K
              try simp only [Act.put, List.getElem_toArray, List.getElem_cons_zero, List.getElem_cons_succ, List.setIfInBounds_toArray, List.set_cons_zero, List.set_cons_succ]
              refine doneM (by kernel_rfl) ?_ _
              clear q2 q3 qf2 qf3 qf3' q3'
              go_wp2_with fail
              go_meet
              exact ⟨rfl, _, _, HE6.out.fin⟩
            · go_simp
              refine hK.out _ _ (HS6.out _ (Fr.of_below (((alloc_below0 V6 (.cells #[.int .i64 kd, .slice q ps.length d, .int .i64 at_, .int .i64 many, .int .i64 sym] 47)).alloc (by simp) (.cells #[.int .i64 bs.kind, .slice q ps.length d, .int .i64 bs.at_, .int .i64 bs.many, .int .i64 bs.sym] 47)).drew))) (fun hS => ?_)
              clear hK K
              try simp only [Act.put, List.getElem_toArray, List.getElem_cons_zero, List.getElem_cons_succ, List.setIfInBounds_toArray, List.set_cons_zero, List.set_cons_succ]
              refine readyM (rs := [8]) (by kernel_rfl) (by simp) ?_
              refine (ReadyM.cons rfl (fun K hK => ?_) ReadyM.nil)
              refine step_append_lies _ (by rfl) _ _ 27 (by rfl) w0.heap.size 47 i0 _ 5 56 Tryz.underlying27 hi0 hz0 hz1 hz2 rfl (by decide) sv vs.length (vs.flatMap wsC) (by rfl) (owns_by HK6.out.steps (fun z e => ((((alloc_below0 V6 (.cells #[.int .i64 kd, .slice q ps.length d, .int .i64 at_, .int .i64 many, .int .i64 sym] 47)).alloc (by simp) (.cells #[.int .i64 bs.kind, .slice q ps.length d, .int .i64 bs.at_, .int .i64 bs.many, .int .i64 bs.sym] 47)).drew)).block z (owns_lt HK6.out.steps e))) ⟨V6.heap.size, 0, none⟩ 1 1 (wsC ⟨⟨ps, ⟨kd, at_, many, sym⟩, bs⟩, q, d⟩) (by rfl) rfl (World.news_of_block ((Box.new V6 47 _).over _)) (by intro u hu; simp only [wsC, List.mem_cons, List.not_mem_nil, or_false] at hu; rcases hu with rfl | rfl | rfl | rfl | rfl <;> rfl) (by decide) (by unfold maxLen; have := HVS.out; omega) (by have := HVS.out; omega) (by have := HLO6.out; have := ((((alloc_below0 V6 (.cells #[.int .i64 kd, .slice q ps.length d, .int .i64 at_, .int .i64 many, .int .i64 sym] 47)).alloc (by simp) (.cells #[.int .i64 bs.kind, .slice q ps.length d, .int .i64 bs.at_, .int .i64 bs.many, .int .i64 bs.sym] 47)).drew)).size; omega) _ rfl ?_
              intro g3 cap3 w3 hown3 hgrow3 hat3 hlt3
              have HF3 : Hid (Fr (fun z => sv.ownBlock = some z ∨ bv.ownBlock = some z) V6 w3) := hid ((Fr.of_below (((alloc_below0 V6 (.cells #[.int .i64 kd, .slice q ps.length d, .int .i64 at_, .int .i64 many, .int .i64 sym] 47)).alloc (by simp) (.cells #[.int .i64 bs.kind, .slice q ps.length d, .int .i64 bs.at_, .int .i64 bs.many, .int .i64 bs.sym] 47)).drew)).trans ((fr_grown hgrow3).mono (fun z hz => .inl hz)))
              have HG3 := hid hgrow3; have HO3 := hid hown3; have HL3 := hid hlt3
              have HA3 : Hid (sv.ownBlock = some g3 ∨ V6.heap.size ≤ g3) := hid (hat3.imp id (fun e => by rw [e]; exact ((((alloc_below0 V6 (.cells #[.int .i64 kd, .slice q ps.length d, .int .i64 at_, .int .i64 many, .int .i64 sym] 47)).alloc (by simp) (.cells #[.int .i64 bs.kind, .slice q ps.length d, .int .i64 bs.at_, .int .i64 bs.many, .int .i64 bs.sym] 47)).drew)).size))
              clear hown3 hgrow3 hat3 hlt3
              refine hK.out _ _ (HS6.out _ HF3.out) (fun hS => ?_)
              clear hK K
              try simp only [Act.put, List.getElem_toArray, List.getElem_cons_zero, List.getElem_cons_succ, List.setIfInBounds_toArray, List.set_cons_zero, List.set_cons_succ]
              refine readyM (rs := [15]) (by kernel_rfl) (by simp) ?_
              refine (ReadyM.cons rfl (fun K hK => ?_) ReadyM.nil)
              refine step_append_lies _ (by rfl) _ _ 27 (by rfl) w0.heap.size 47 i0 _ 5 56 Tryz.underlying27 hi0 hz0 hz1 hz2 rfl (by decide) bv vs.length (vs.flatMap wbC) (by rfl) (owns_by HK6.out.backs (fun z e => (HG3.out.block z (Nat.lt_of_lt_of_le (owns_lt HK6.out.backs e) ((((alloc_below0 V6 (.cells #[.int .i64 kd, .slice q ps.length d, .int .i64 at_, .int .i64 many, .int .i64 sym] 47)).alloc (by simp) (.cells #[.int .i64 bs.kind, .slice q ps.length d, .int .i64 bs.at_, .int .i64 bs.many, .int .i64 bs.sym] 47)).drew)).size) (fun e2 => HK6.out.ne z e2.symm e)).trans (((((alloc_below0 V6 (.cells #[.int .i64 kd, .slice q ps.length d, .int .i64 at_, .int .i64 many, .int .i64 sym] 47)).alloc (by simp) (.cells #[.int .i64 bs.kind, .slice q ps.length d, .int .i64 bs.at_, .int .i64 bs.many, .int .i64 bs.sym] 47)).drew)).block z (owns_lt HK6.out.backs e)))) ⟨V6.heap.size + 1, 0, none⟩ 1 1 (wbC ⟨⟨ps, ⟨kd, at_, many, sym⟩, bs⟩, q, d⟩) (by rfl) rfl (World.news_of_block ((HG3.out.block (V6.heap.size + 1) (by show _ < ((V6.alloc _).alloc _).heap.size; rw [World.size_alloc, World.size_alloc]; omega) (fun e => by have := owns_lt HK6.out.steps e.symm; omega)).trans (box_new (by rw [World.size_alloc]) 47 _))) (by intro u hu; simp only [wbC, List.mem_cons, List.not_mem_nil, or_false] at hu; rcases hu with rfl | rfl | rfl | rfl | rfl <;> rfl) (by decide) (by unfold maxLen; have := HVS.out; omega) (by have := HVS.out; omega) (by have := HLO6.out; have := (show Fr _ V6 w3 from HF3.out).low.size; omega) _ rfl ?_
              intro g4 cap4 w4' hown4 hgrow4 hat4 hlt4
              have HF4 : Hid (Fr (fun z => sv.ownBlock = some z ∨ bv.ownBlock = some z) V6 w4') := hid ((show Fr _ V6 w3 from HF3.out).trans ((fr_grown hgrow4).mono (fun z hz => .inr hz)))
              have HO3' := hid (ap_keep (show Fr _ V6 w3 from HF3.out) HK6.out HO3.out HA3.out (Below.refl _ w3) hgrow4)
              have HE6 := hid (ApEnd.of HK6.out HF4.out HO3'.out hown4 HA3.out (hat4.imp id (fun e => by rw [e]; exact (show Fr _ V6 w3 from HF3.out).low.size)) (ap_ne HK6.out HA3.out HL3.out hat4 (Nat.le_refl _)))
              clear hown4 hgrow4 hat4 hlt4
              refine hK.out _ _ (HS6.out _ HF4.out) (fun hS => ?_)
              clear hK K hS
              try simp only [Act.put, List.getElem_toArray, List.getElem_cons_zero, List.getElem_cons_succ, List.setIfInBounds_toArray, List.set_cons_zero, List.set_cons_succ]
              have q2 := HE6.out.box.v (k := 2) rfl; have q3 := HE6.out.box.v (k := 3) rfl; have qf2 := HE6.out.box.f 2; have qf3 := HE6.out.box.f 3
              refine plainM (i := 16) (v := (.pointer (some ⟨B, 0, none⟩))) rfl (by kernel_rfl) (by kernel_rfl) (by kernel_rfl) (by kernel_rfl) (fun _ _ _ h => h) (Or.inl ⟨by rfl, fun w' _ => ?_⟩) ?_
              · go_simp
              try simp only [Act.put, List.getElem_toArray, List.getElem_cons_zero, List.getElem_cons_succ, List.setIfInBounds_toArray, List.set_cons_zero, List.set_cons_succ]
              refine plainM (i := 17) (v := (.pointer (some ⟨B, 2, none⟩))) rfl (by kernel_rfl) (by kernel_rfl) (by kernel_rfl) (by kernel_rfl) (fun _ _ _ h => h) (Or.inl ⟨by rfl, fun w' _ => ?_⟩) ?_
              · go_simp
              try simp only [Act.put, List.getElem_toArray, List.getElem_cons_zero, List.getElem_cons_succ, List.setIfInBounds_toArray, List.set_cons_zero, List.set_cons_succ]
              refine readyM (rs := [18]) (by kernel_rfl) (by simp) ?_
              refine ReadyM.last rfl (by kernel_rfl) (fun K hK => ?_)
              go_simp
              refine hK.out _ _ ?_
              clear hK K
              try simp only [Act.put, List.getElem_toArray, List.getElem_cons_zero, List.getElem_cons_succ, List.setIfInBounds_toArray, List.set_cons_zero, List.set_cons_succ]
              refine plainM (i := 19) (v := (.pointer (some ⟨B, 0, none⟩))) rfl (by kernel_rfl) (by kernel_rfl) (by kernel_rfl) (by kernel_rfl) (fun _ _ _ h => h) (Or.inl ⟨by rfl, fun w' _ => ?_⟩) ?_
              · go_simp
              try simp only [Act.put, List.getElem_toArray, List.getElem_cons_zero, List.getElem_cons_succ, List.setIfInBounds_toArray, List.set_cons_zero, List.set_cons_succ]
              refine plainM (i := 20) (v := (.pointer (some ⟨B, 3, none⟩))) rfl (by kernel_rfl) (by kernel_rfl) (by kernel_rfl) (by kernel_rfl) (fun _ _ _ h => h) (Or.inl ⟨by rfl, fun w' _ => ?_⟩) ?_
              · go_simp
              try simp only [Act.put, List.getElem_toArray, List.getElem_cons_zero, List.getElem_cons_succ, List.setIfInBounds_toArray, List.set_cons_zero, List.set_cons_succ]
              have qf3' : (w4'.setCell ⟨B, 2, none⟩ (.slice (some ⟨g3, 0, none⟩) (vs.length + 1) cap3)).frozen? ⟨B, 3, none⟩ = false := (HE6.out.box.set 2 _).f 3
              have q3' := (HE6.out.box.set 2 (.slice (some ⟨g3, 0, none⟩) (vs.length + 1) cap3)).v (k := 3) rfl
              refine readyM (rs := [21]) (by kernel_rfl) (by simp) ?_
              refine ReadyM.last rfl (by kernel_rfl) (fun K hK => ?_)
              go_simp
              refine hK.out _ _ ?_
              clear hK K
              try simp only [Act.put, List.getElem_toArray, List.getElem_cons_zero, List.getElem_cons_succ, List.setIfInBounds_toArray, List.set_cons_zero, List.set_cons_succ]
              refine doneM (by kernel_rfl) ?_ _
              clear q2 q3 qf2 qf3 qf3' q3'
              go_wp2_with fail
              go_meet
              exact ⟨rfl, _, _, HE6.out.fin⟩
          · go_simp
            refine hK.out _ _ (HS6.out _ (Fr.of_below ((alloc_below0 V6 (.cells #[.int .i64 bs.kind, .slice q ps.length d, .int .i64 bs.at_, .int .i64 bs.many, .int .i64 bs.sym] 47)).drew))) (fun hS => ?_)
            clear hK K
            try simp only [Act.put, List.getElem_toArray, List.getElem_cons_zero, List.getElem_cons_succ, List.setIfInBounds_toArray, List.set_cons_zero, List.set_cons_succ]
            refine readyM (rs := [7]) (by kernel_rfl) (by simp) ?_
            refine (ReadyM.cons rfl (fun K hK => ?_) ReadyM.nil)
            go_simp
            refine hK.out _ _ (HS6.out _ (Fr.of_below (((alloc_below0 V6 (.cells #[.int .i64 bs.kind, .slice q ps.length d, .int .i64 bs.at_, .int .i64 bs.many, .int .i64 bs.sym] 47)).alloc (by simp) (.cells #[.int .i64 kd, .slice q ps.length d, .int .i64 at_, .int .i64 many, .int .i64 sym] 47)).drew))) (fun hS => ?_)
            clear hK K
            try simp only [Act.put, List.getElem_toArray, List.getElem_cons_zero, List.getElem_cons_succ, List.setIfInBounds_toArray, List.set_cons_zero, List.set_cons_succ]
            refine readyM (rs := [8]) (by kernel_rfl) (by simp) ?_
            refine (ReadyM.cons rfl (fun K hK => ?_) ReadyM.nil)
            refine step_append_lies _ (by rfl) _ _ 27 (by rfl) w0.heap.size 47 i0 _ 5 56 Tryz.underlying27 hi0 hz0 hz1 hz2 rfl (by decide) sv vs.length (vs.flatMap wsC) (by rfl) (owns_by HK6.out.steps (fun z e => ((((alloc_below0 V6 (.cells #[.int .i64 bs.kind, .slice q ps.length d, .int .i64 bs.at_, .int .i64 bs.many, .int .i64 bs.sym] 47)).alloc (by simp) (.cells #[.int .i64 kd, .slice q ps.length d, .int .i64 at_, .int .i64 many, .int .i64 sym] 47)).drew)).block z (owns_lt HK6.out.steps e))) ⟨V6.heap.size + 1, 0, none⟩ 1 1 (wsC ⟨⟨ps, ⟨kd, at_, many, sym⟩, bs⟩, q, d⟩) (by rfl) rfl (World.news_of_block (box_new (by rw [World.size_alloc]) 47 _)) (by intro u hu; simp only [wsC, List.mem_cons, List.not_mem_nil, or_false] at hu; rcases hu with rfl | rfl | rfl | rfl | rfl <;> rfl) (by decide) (by unfold maxLen; have := HVS.out; omega) (by have := HVS.out; omega) (by have := HLO6.out; have := ((((alloc_below0 V6 (.cells #[.int .i64 bs.kind, .slice q ps.length d, .int .i64 bs.at_, .int .i64 bs.many, .int .i64 bs.sym] 47)).alloc (by simp) (.cells #[.int .i64 kd, .slice q ps.length d, .int .i64 at_, .int .i64 many, .int .i64 sym] 47)).drew)).size; omega) _ rfl ?_
            intro g3 cap3 w3 hown3 hgrow3 hat3 hlt3
            have HF3 : Hid (Fr (fun z => sv.ownBlock = some z ∨ bv.ownBlock = some z) V6 w3) := hid ((Fr.of_below (((alloc_below0 V6 (.cells #[.int .i64 bs.kind, .slice q ps.length d, .int .i64 bs.at_, .int .i64 bs.many, .int .i64 bs.sym] 47)).alloc (by simp) (.cells #[.int .i64 kd, .slice q ps.length d, .int .i64 at_, .int .i64 many, .int .i64 sym] 47)).drew)).trans ((fr_grown hgrow3).mono (fun z hz => .inl hz)))
            have HG3 := hid hgrow3; have HO3 := hid hown3; have HL3 := hid hlt3
            have HA3 : Hid (sv.ownBlock = some g3 ∨ V6.heap.size ≤ g3) := hid (hat3.imp id (fun e => by rw [e]; exact ((((alloc_below0 V6 (.cells #[.int .i64 bs.kind, .slice q ps.length d, .int .i64 bs.at_, .int .i64 bs.many, .int .i64 bs.sym] 47)).alloc (by simp) (.cells #[.int .i64 kd, .slice q ps.length d, .int .i64 at_, .int .i64 many, .int .i64 sym] 47)).drew)).size))
            clear hown3 hgrow3 hat3 hlt3
            refine hK.out _ _ (HS6.out _ HF3.out) (fun hS => ?_)
            clear hK K
            try simp only [Act.put, List.getElem_toArray, List.getElem_cons_zero, List.getElem_cons_succ, List.setIfInBounds_toArray, List.set_cons_zero, List.set_cons_succ]
            refine readyM (rs := [15]) (by kernel_rfl) (by simp) ?_
            refine (ReadyM.cons rfl (fun K hK => ?_) ReadyM.nil)
            refine step_append_lies _ (by rfl) _ _ 27 (by rfl) w0.heap.size 47 i0 _ 5 56 Tryz.underlying27 hi0 hz0 hz1 hz2 rfl (by decide) bv vs.length (vs.flatMap wbC) (by rfl) (owns_by HK6.out.backs (fun z e => (HG3.out.block z (Nat.lt_of_lt_of_le (owns_lt HK6.out.backs e) ((((alloc_below0 V6 (.cells #[.int .i64 bs.kind, .slice q ps.length d, .int .i64 bs.at_, .int .i64 bs.many, .int .i64 bs.sym] 47)).alloc (by simp) (.cells #[.int .i64 kd, .slice q ps.length d, .int .i64 at_, .int .i64 many, .int .i64 sym] 47)).drew)).size) (fun e2 => HK6.out.ne z e2.symm e)).trans (((((alloc_below0 V6 (.cells #[.int .i64 bs.kind, .slice q ps.length d, .int .i64 bs.at_, .int .i64 bs.many, .int .i64 bs.sym] 47)).alloc (by simp) (.cells #[.int .i64 kd, .slice q ps.length d, .int .i64 at_, .int .i64 many, .int .i64 sym] 47)).drew)).block z (owns_lt HK6.out.backs e)))) ⟨V6.heap.size, 0, none⟩ 1 1 (wbC ⟨⟨ps, ⟨kd, at_, many, sym⟩, bs⟩, q, d⟩) (by rfl) rfl (World.news_of_block ((HG3.out.block V6.heap.size (by show _ < ((V6.alloc _).alloc _).heap.size; rw [World.size_alloc, World.size_alloc]; omega) (fun e => by have := owns_lt HK6.out.steps e.symm; omega)).trans ((Box.new V6 47 _).over _))) (by intro u hu; simp only [wbC, List.mem_cons, List.not_mem_nil, or_false] at hu; rcases hu with rfl | rfl | rfl | rfl | rfl <;> rfl) (by decide) (by unfold maxLen; have := HVS.out; omega) (by have := HVS.out; omega) (by have := HLO6.out; have := (show Fr _ V6 w3 from HF3.out).low.size; omega) _ rfl ?_
            intro g4 cap4 w4' hown4 hgrow4 hat4 hlt4
            have HF4 : Hid (Fr (fun z => sv.ownBlock = some z ∨ bv.ownBlock = some z) V6 w4') := hid ((show Fr _ V6 w3 from HF3.out).trans ((fr_grown hgrow4).mono (fun z hz => .inr hz)))
            have HO3' := hid (ap_keep (show Fr _ V6 w3 from HF3.out) HK6.out HO3.out HA3.out (Below.refl _ w3) hgrow4)
            have HE6 := hid (ApEnd.of HK6.out HF4.out HO3'.out hown4 HA3.out (hat4.imp id (fun e => by rw [e]; exact (show Fr _ V6 w3 from HF3.out).low.size)) (ap_ne HK6.out HA3.out HL3.out hat4 (Nat.le_refl _)))
            clear hown4 hgrow4 hat4 hlt4
            refine hK.out _ _ (HS6.out _ HF4.out) (fun hS => ?_)
            clear hK K hS
            try simp only [Act.put, List.getElem_toArray, List.getElem_cons_zero, List.getElem_cons_succ, List.setIfInBounds_toArray, List.set_cons_zero, List.set_cons_succ]
            have q2 := HE6.out.box.v (k := 2) rfl; have q3 := HE6.out.box.v (k := 3) rfl; have qf2 := HE6.out.box.f 2; have qf3 := HE6.out.box.f 3
            refine plainM (i := 16) (v := (.pointer (some ⟨B, 0, none⟩))) rfl (by kernel_rfl) (by kernel_rfl) (by kernel_rfl) (by kernel_rfl) (fun _ _ _ h => h) (Or.inl ⟨by rfl, fun w' _ => ?_⟩) ?_
            · go_simp
            try simp only [Act.put, List.getElem_toArray, List.getElem_cons_zero, List.getElem_cons_succ, List.setIfInBounds_toArray, List.set_cons_zero, List.set_cons_succ]
            refine plainM (i := 17) (v := (.pointer (some ⟨B, 2, none⟩))) rfl (by kernel_rfl) (by kernel_rfl) (by kernel_rfl) (by kernel_rfl) (fun _ _ _ h => h) (Or.inl ⟨by rfl, fun w' _ => ?_⟩) ?_
            · go_simp
            try simp only [Act.put, List.getElem_toArray, List.getElem_cons_zero, List.getElem_cons_succ, List.setIfInBounds_toArray, List.set_cons_zero, List.set_cons_succ]
            refine readyM (rs := [18]) (by kernel_rfl) (by simp) ?_
            refine ReadyM.last rfl (by kernel_rfl) (fun K hK => ?_)
            go_simp
            refine hK.out _ _ ?_
            clear hK K
            try simp only [Act.put, List.getElem_toArray, List.getElem_cons_zero, List.getElem_cons_succ, List.setIfInBounds_toArray, List.set_cons_zero, List.set_cons_succ]
            refine plainM (i := 19) (v := (.pointer (some ⟨B, 0, none⟩))) rfl (by kernel_rfl) (by kernel_rfl) (by kernel_rfl) (by kernel_rfl) (fun _ _ _ h => h) (Or.inl ⟨by rfl, fun w' _ => ?_⟩) ?_
            · go_simp
            try simp only [Act.put, List.getElem_toArray, List.getElem_cons_zero, List.getElem_cons_succ, List.setIfInBounds_toArray, List.set_cons_zero, List.set_cons_succ]
            refine plainM (i := 20) (v := (.pointer (some ⟨B, 3, none⟩))) rfl (by kernel_rfl) (by kernel_rfl) (by kernel_rfl) (by kernel_rfl) (fun _ _ _ h => h) (Or.inl ⟨by rfl, fun w' _ => ?_⟩) ?_
            · go_simp
            try simp only [Act.put, List.getElem_toArray, List.getElem_cons_zero, List.getElem_cons_succ, List.setIfInBounds_toArray, List.set_cons_zero, List.set_cons_succ]
            have qf3' : (w4'.setCell ⟨B, 2, none⟩ (.slice (some ⟨g3, 0, none⟩) (vs.length + 1) cap3)).frozen? ⟨B, 3, none⟩ = false := (HE6.out.box.set 2 _).f 3
            have q3' := (HE6.out.box.set 2 (.slice (some ⟨g3, 0, none⟩) (vs.length + 1) cap3)).v (k := 3) rfl
            refine readyM (rs := [21]) (by kernel_rfl) (by simp) ?_
            refine ReadyM.last rfl (by kernel_rfl) (fun K hK => ?_)
            go_simp
            refine hK.out _ _ ?_
            clear hK K
            try simp only [Act.put, List.getElem_toArray, List.getElem_cons_zero, List.getElem_cons_succ, List.setIfInBounds_toArray, List.set_cons_zero, List.set_cons_succ]
            refine doneM (by kernel_rfl) ?_ _
            clear q2 q3 qf2 qf3 qf3' q3'
            go_wp2_with fail
            go_meet
            exact ⟨rfl, _, _, HE6.out.fin⟩
      case rest =>
        obtain ⟨rfl, sv', bv', hE⟩ := hcut
        obtain ⟨W9, rfl⟩ : ∃ W9, W9 = wc := ⟨_, rfl⟩
        have HE := hid hE
        clear hE hi0 hz0 hz1 hz2
        go_wp2
        go_ret
        have hT := HT.out; have hE := HE.out; have hsz := HSZ.out; have hye := HYE.out; have hs6 := HSZ6.out
        have hXW : ∀ z, X z → z < W.heap.size := fun z hz => (HK.out.low z hz).2
        have hBl := HX3.out.lt
        have h34 := HB4.out.size
        have h03 := hT.fr.low.size
        have h69 := hE.fr.low.size
        have hlo0 := HB.out.size
        have hrow : ∀ z, (z = B ∨ sv.ownBlock = some z ∨ bv.ownBlock = some z) → X z := fun z hz => by
          rcases hz with e | e | e
          · rw [e]; exact HK.out.inX
          · exact HK6.out.sX z e
          · exact HK6.out.bX z e
        have hA' : ∀ z, A' z → ¬ X z := fun z hz hx => by
          rcases (HA3'.out z hz).1 with h | h
          · exact HN.out.apart z h hx
          · have := hXW z hx; omega
        have hAY : ∀ z, A' z → z ≠ Y := fun z hz e => by
          rcases (HA3'.out z hz).1 with h | h
          · have := (HN.out.low z h).2; omega
          · omega
        have hbW := HN.out.pl.lt
        have h39 : ∀ z, z < W3.heap.size → ¬ X z → z ≠ Y → z ≠ Bx → W9.heap[z]? = W3.heap[z]? := fun z hz hx h1 h2 => (hE.fr.same z (by omega) (fun h => hx (hrow z h))).trans (HFR6.out.same z hz (fun h => h.elim h1 h2))
        have hlow : Below 0 W W9 := (((HBW.out.mono (Nat.zero_le _)).trans hT.fr.low).trans HFR6.out.low).trans hE.fr.low
        have hlX : ∀ z, (X z ∨ (W3.heap.size ≤ z ∧ z < W9.heap.size)) → w0.heap.size ≤ z ∧ z < W9.heap.size := fun z hz => by
          rcases hz with h | h
          · exact ⟨(HK.out.low z h).1, by have := hXW z h; omega⟩
          · exact ⟨by omega, h.2⟩
        refine ⟨rfl, A', fun z => X z ∨ (W3.heap.size ≤ z ∧ z < W9.heap.size), a3, c3, ks3, cur3, vs ++ [⟨⟨ps, ⟨kd, at_, many, sym⟩, bs⟩, q, d⟩], .slice pa ps.length pc, sv', bv', ?_⟩
        refine ⟨⟨hlow, fun z hz hn => ?_⟩, fun z hz => (HA3'.out z hz).1.imp id (fun h => by omega), fun z hz => hz.imp id (fun h => by omega), HS3.out, HO3.out, ⟨HP3.out.keep (h39 b (by omega) HN.out.out (by omega) (by have := hT.lo; omega)) (fun k hk hlt => h39 k hlt (hA' k hk) (hAY k hk) (HA3'.out k hk).2.2), HK3k.out, fun z hz => ⟨?_, by have := (HA3'.out z hz).2.1; omega⟩, fun z hz hx => ?_, fun hx => ?_, HN.out.lo⟩, ?_, ?_⟩
        · have h1 : ¬ X z := fun h => hn (.inr (.inl h))
          refine (h39 z (by omega) h1 (by omega) (by have := hT.lo; omega)).trans ((hT.fr.same z (by omega) (fun h => ?_)).trans (HBW.out.block z hz))
          rcases h with h | h
          · exact hn (.inl h)
          · exact hn (.inr (.inr h))
        · rcases (HA3'.out z hz).1 with h | h
          · exact (HN.out.low z h).1
          · omega
        · rcases hx with h | h
          · exact hA' z hz h
          · have := (HA3'.out z hz).2.1; omega
        · rcases hx with h | h
          · exact HN.out.out h
          · omega
        · refine Wk.more HK6.out ⟨⟨ps, ⟨kd, at_, many, sym⟩, bs⟩, q, d⟩ ?_ HPS.out HD4.out HM4.out (fun hp ad e => ?_) hE.hs hE.hb hE.hns hE.hnb hE.hne hE.box hE.fr (fun z hz => .inl hz) (fun z h1 h2 => .inr ⟨by omega, h2⟩) hlX
          · refine HI4.out.keep (fun ad e => ?_)
            have h1 := HL4.out ad e
            exact HFRK.out ad.block (by omega) (by omega)
          · have h1 := HL4.out ad e
            have h2 : ad.block < w4.heap.size := by
              have h3 : 0 < ps.length := by cases ps with | nil => exact absurd rfl hp | cons _ _ => simp
              obtain ⟨bb, off, e2, hc⟩ := HI4.out.cells 0 h3
              have e : q = some ad := e
              rw [e] at e2
              cases e2
              exact World.block_lt_of_cell? w4 _ hc
            refine ⟨.inr ⟨h1, by omega⟩, by omega, fun hr => ?_⟩
            have hx : X ad.block := by
              rcases hr with e2 | e2 | e2 | e2
              · rw [e2]; exact HK.out.inX
              · exact HK6.out.pX _ e2
              · exact HK6.out.sX _ e2
              · exact HK6.out.bX _ e2
            have := hXW _ hx
            have := hT.fr.low.size
            omega
        · rw [List.map_append]
          have := HBS.out
          have hbs : rr.2 = bs := this
          rw [hbs]; rfl
end Go.Proofs.YtokbgbbkopmngaaGreat
