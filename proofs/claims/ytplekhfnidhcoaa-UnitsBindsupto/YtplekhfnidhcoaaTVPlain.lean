/- Names rising, each once: there is but one such list of the same names. -/
import Derived.Test.YtplekhfnidhcoaaTRCmp
import Derived.Test.YtplekhfnidhcoaaTRChkB
import Derived.Lib.SlicesCompact
import Derived.Sort.EncStr
namespace Go.Proofs.Ytplekhfnidhcoaa
open Go.RowKit Go.Deep

abbrev Nm := List UInt8
theorem Try.info9 : (Try.prog.info? 9).map (fun i => (i.zero, i.size, i.bytes)) = some (some (.string ⟨#[]⟩), 1, 16) := by kernel_rfl
def sortL (l : List (List UInt8)) : List (List UInt8) := l.mergeSort fun x y => decide (x ≤ y)
def LtN (a b : Nm) : Prop := Lib.compareBytes a b = -1
theorem nm_range : ∀ a b : Nm, Lib.compareBytes a b = -1 ∨ Lib.compareBytes a b = 0 ∨ Lib.compareBytes a b = 1
  | [], [] => by simp [Lib.compareBytes]
  | [], _ :: _ => by simp [Lib.compareBytes]
  | _ :: _, [] => by simp [Lib.compareBytes]
  | a :: u, b :: v => by
    have := nm_range u v
    rw [Lib.compareBytes]
    split
    · omega
    · split <;> omega
theorem ltN_irrefl (a : Nm) : ¬ LtN a a := fun h => by have := bytes_refl a; unfold LtN at h; omega
theorem ltN_trans {a b c : Nm} (h : LtN a b) (k : LtN b c) : LtN a c := by
  unfold LtN at *
  have := (bytes_cons a b c).lt (by omega) (by omega)
  have := nm_range a c
  omega
theorem ltN_asymm {a b : Nm} (h : LtN a b) : ¬ LtN b a := fun k => ltN_irrefl a (ltN_trans h k)
theorem ltN_total {a b : Nm} (h1 : ¬ LtN a b) (h2 : a ≠ b) : LtN b a := by
  unfold LtN at *
  have := nm_range a b
  have := bytes_anti a b
  have : Lib.compareBytes a b ≠ 0 := fun h => h2 (bytes_zero h)
  omega
/-- Strictly rising. -/
def SS (l : List Nm) : Prop := l.Pairwise LtN
theorem ss_unique : ∀ (l m : List Nm), SS l → SS m → (∀ x, x ∈ l ↔ x ∈ m) → l = m
  | [], [], _, _, _ => rfl
  | [], b :: m, _, _, h => absurd ((h b).2 (by simp)) (by simp)
  | a :: l, [], _, _, h => absurd ((h a).1 (by simp)) (by simp)
  | a :: l, b :: m, hl, hm, h => by
    obtain ⟨ha, hl'⟩ := List.pairwise_cons.1 hl
    obtain ⟨hb, hm'⟩ := List.pairwise_cons.1 hm
    have e : a = b := by
      rcases List.mem_cons.1 ((h a).1 (by simp)) with e | e
      · exact e
      · rcases List.mem_cons.1 ((h b).2 (by simp)) with e' | e'
        · exact e'.symm
        · exact absurd (hb a e) (ltN_asymm (ha b e'))
    subst e
    rw [ss_unique l m hl' hm' (fun x => ?_)]
    constructor
    · intro hx
      rcases List.mem_cons.1 ((h x).1 (by simp [hx])) with e | e
      · subst e; exact absurd (ha x hx) (ltN_irrefl x)
      · exact e
    · intro hx
      rcases List.mem_cons.1 ((h x).2 (by simp [hx])) with e | e
      · subst e; exact absurd (hb x hx) (ltN_irrefl x)
      · exact e

theorem compact_is (d : Array Nm) (hs : ∀ i j, i < j → j < d.size → ¬ LtN d[j]! d[i]!) : ∀ m, m ≤ d.size → SS (Lib.compactUpTo d m) ∧ (∀ x, x ∈ Lib.compactUpTo d m ↔ ∃ j, j < m ∧ d[j]! = x)
  | 0, _ => ⟨by simp [Lib.compactUpTo, SS], by simp [Lib.compactUpTo]⟩
  | m + 1, hm => by
    obtain ⟨h1, h2⟩ := compact_is d hs m (by omega)
    rw [Lib.compactUpTo_succ]
    cases hk : Lib.keeps d m
    · simp only [Bool.false_eq_true, if_false, List.append_nil]
      refine ⟨h1, fun x => (h2 x).trans ⟨fun ⟨j, hj, e⟩ => ⟨j, by omega, e⟩, fun ⟨j, hj, e⟩ => ?_⟩⟩
      rcases Nat.lt_succ_iff_lt_or_eq.1 hj with hj | rfl
      · exact ⟨j, hj, e⟩
      · unfold Lib.keeps at hk
        simp at hk
        exact ⟨j - 1, by omega, by rw [← e]; exact hk.2.symm⟩
    · simp only [if_true]
      constructor
      · refine List.pairwise_append.2 ⟨h1, by simp, fun a ha b hb => ?_⟩
        simp at hb
        subst hb
        obtain ⟨j, hj, e⟩ := (h2 a).1 ha
        subst e
        have hne : d[m]! ≠ d[m - 1]! := by
          unfold Lib.keeps at hk
          simp at hk
          rcases hk with hk | hk
          · omega
          · exact hk
        have hlast : LtN d[m - 1]! d[m]! := ltN_total (hs (m - 1) m (by omega) (by omega)) hne
        by_cases hj1 : j = m - 1
        · subst hj1; exact hlast
        · have := hs j (m - 1) (by omega) (by omega)
          by_cases he : d[j]! = d[m - 1]!
          · rw [he]; exact hlast
          · exact ltN_trans (ltN_total this (fun e => he e.symm)) hlast
      · intro x
        rw [List.mem_append, h2 x]
        simp only [List.mem_singleton]
        constructor
        · rintro (⟨j, hj, e⟩ | e)
          · exact ⟨j, by omega, e⟩
          · exact ⟨m, by omega, e.symm⟩
        · rintro ⟨j, hj, e⟩
          rcases Nat.lt_succ_iff_lt_or_eq.1 hj with hj | rfl
          · exact .inl ⟨j, hj, e⟩
          · exact .inr e.symm
theorem sort_pairwise (l : List Nm) : (sortL l).Pairwise (fun a b => ¬ LtN b a) := by
  have h := List.pairwise_mergeSort (le := fun x y : Nm => decide (x ≤ y)) (fun a b c hab hbc => ?_) (fun a b => ?_) l
  · refine h.imp fun {a b} hab => ?_
    have hab' : ¬ b < a := by simpa using hab
    exact fun h => hab' ((lt_bytes b a).2 h)
  · have h1 : ¬ b < a := by simpa using hab
    have h2 : ¬ c < b := by simpa using hbc
    have : ¬ c < a := fun h3 => by
      have k3 := (lt_bytes c a).1 h3
      have k1 : ¬ LtN b a := fun h => h1 ((lt_bytes b a).2 h)
      have k2 : ¬ LtN c b := fun h => h2 ((lt_bytes c b).2 h)
      by_cases e : a = b
      · subst e; exact k2 k3
      · exact k2 (ltN_trans k3 (ltN_total k1 (fun e' => e e'.symm)))
    simpa using this
  · by_cases h1 : a < b
    · have : ¬ b < a := fun h2 => ltN_asymm ((lt_bytes a b).1 h1) ((lt_bytes b a).1 h2)
      have : decide (a ≤ b) = true := by simpa using this
      rw [this, Bool.true_or]
    · have : decide (b ≤ a) = true := by simpa using h1
      rw [this, Bool.or_true]
theorem vars_ss (ss : List Nm) : SS (Lib.compact (sortL ss)) ∧ ∀ x, x ∈ Lib.compact (sortL ss) ↔ x ∈ ss := by
  have hs : ∀ i j, i < j → j < (sortL ss).toArray.size → ¬ LtN (sortL ss).toArray[j]! (sortL ss).toArray[i]! := by
    intro i j hij hj
    have hj' : j < (sortL ss).length := by simpa using hj
    have := List.pairwise_iff_getElem.1 (sort_pairwise ss) i j (by omega) hj' hij
    simpa [getElem!_pos, hj', show i < (sortL ss).length by omega] using this
  obtain ⟨h1, h2⟩ := compact_is (sortL ss).toArray hs (sortL ss).length (by simp)
  refine ⟨h1, fun x => ?_⟩
  unfold Lib.compact
  rw [h2 x]
  have hm : x ∈ ss ↔ x ∈ sortL ss := by unfold sortL; simp
  rw [hm, List.mem_iff_getElem]
  constructor
  · rintro ⟨j, hj, e⟩
    exact ⟨j, hj, by simpa [getElem!_pos, hj] using e⟩
  · rintro ⟨j, hj, e⟩
    exact ⟨j, hj, by simpa [getElem!_pos, hj] using e⟩
theorem vars_unique {ss out : List Nm} (h : SS out) (hm : ∀ x, x ∈ out ↔ x ∈ ss) : out = Lib.compact (sortL ss) :=
  ss_unique _ _ h (vars_ss ss).1 (fun x => (hm x).trans ((vars_ss ss).2 x).symm)
/-- OneT more name at its place. -/
theorem ss_insert {out : List Nm} {s : Nm} {k : Nat} (h : SS out) (hk : k ≤ out.length) (hi : ∀ i (h : i < out.length), k ≤ i → LtN s out[i]) (lo : k = 0 ∨ ∃ h : k - 1 < out.length, LtN out[k - 1] s) : SS (out.take k ++ [s] ++ out.drop k) := by
  have hlow : ∀ a ∈ out.take k, LtN a s := by
    intro a ha
    obtain ⟨i, hi', rfl⟩ := List.getElem_of_mem ha
    rw [List.getElem_take]
    have hik : i < k := by simp at hi'; omega
    rcases lo with lo | ⟨hlt, lo⟩
    · omega
    · by_cases e : i = k - 1
      · subst e; exact lo
      · exact ltN_trans (List.pairwise_iff_getElem.1 h i (k - 1) (by simp at hi'; omega) hlt (by omega)) lo
  have hhigh : ∀ b ∈ out.drop k, LtN s b := by
    intro b hb
    obtain ⟨i, hi', rfl⟩ := List.getElem_of_mem hb
    rw [List.getElem_drop]
    exact hi _ (by simp at hi'; omega) (by omega)
  have hb : out = out.take k ++ out.drop k := (List.take_append_drop k out).symm
  have hcross : ∀ a ∈ out.take k, ∀ b ∈ out.drop k, LtN a b := fun a ha b hb => ltN_trans (hlow a ha) (hhigh b hb)
  rw [List.append_assoc]
  refine List.pairwise_append.2 ⟨h.sublist (List.take_sublist k out), ?_, fun a ha b hb => ?_⟩
  · exact List.pairwise_append.2 ⟨by simp, h.sublist (List.drop_sublist k out), fun a ha b hb => by simp at ha; subst ha; exact hhigh b hb⟩
  · rcases List.mem_append.1 hb with hb | hb
    · simp at hb; subst hb; exact hlow a ha
    · exact hcross a ha b hb
theorem mem_insert {out : List Nm} {s x : Nm} {k : Nat} : x ∈ out.take k ++ [s] ++ out.drop k ↔ x ∈ out ∨ x = s := by
  have : x ∈ out ↔ x ∈ out.take k ∨ x ∈ out.drop k := by
    rw [← List.mem_append, List.take_append_drop]
  simp only [List.mem_append, List.mem_singleton, this]
  constructor
  · rintro ((h | h) | h)
    · exact .inl (.inl h)
    · exact .inr h
    · exact .inl (.inr h)
  · rintro ((h | h) | h)
    · exact .inl (.inl h)
    · exact .inr h
    · exact .inl (.inr h)
end Go.Proofs.Ytplekhfnidhcoaa
