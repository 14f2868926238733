/- The units of a signature, plainly: those that are gathered, sorted and made single are those below the length that some symbol tells. -/
import Derived.Test.YtplekhfnidhcoaaRUnits
import Derived.Lib.SlicesCompact
namespace Go.Proofs.Ytplekhfnidhcoaa
open Go.RowKit

def unitOf (l : List Sym) (x : Sym) : Option Int := if x.kind = 3 then (findL l x.unit).map (fun (i : Nat) => (i : Int)) else none
/-- What the program gathers of the first k symbols. -/
def rawTo (l : List Sym) (k : Nat) : List Int := (l.take k).filterMap (unitOf l)
theorem rawTo_zero (l : List Sym) : rawTo l 0 = [] := by simp [rawTo]
theorem rawTo_some {l : List Sym} {k : Nat} (hk : k < l.length) {z : Int} (h : unitOf l l[k] = some z) : rawTo l (k + 1) = rawTo l k ++ [z] := by
  unfold rawTo; rw [List.take_succ_eq_append_getElem hk, List.filterMap_append]; simp [h]
theorem rawTo_none {l : List Sym} {k : Nat} (hk : k < l.length) (h : unitOf l l[k] = none) : rawTo l (k + 1) = rawTo l k := by
  unfold rawTo; rw [List.take_succ_eq_append_getElem hk, List.filterMap_append]; simp [h]
theorem rawTo_le (l : List Sym) (k : Nat) : (rawTo l k).length ≤ k := by
  unfold rawTo
  exact Nat.le_trans (List.length_filterMap_le _ _) (by simp; omega)
theorem unitOf_at {l : List Sym} {k : Nat} (hk : k < l.length) : unitOf l l[k] = (unitAt l k).map (fun (i : Nat) => (i : Int)) := by
  unfold unitOf
  by_cases h : l[k].kind = 3
  · rw [if_pos h, unit_is hk h]
  · rw [if_neg h, unit_not hk h]; rfl
theorem mem_raw {l : List Sym} (x : Int) : x ∈ rawTo l l.length ↔ ∃ k i : Nat, k < l.length ∧ unitAt l k = some i ∧ x = i := by
  unfold rawTo
  rw [List.take_length, List.mem_filterMap]
  constructor
  · rintro ⟨y, hy, h⟩
    obtain ⟨k, hk, rfl⟩ := List.getElem_of_mem hy
    rw [unitOf_at hk] at h
    cases hu : unitAt l k with
    | none => rw [hu] at h; cases h
    | some i => rw [hu] at h; simp at h; exact ⟨k, i, hk, hu, h.symm⟩
  · rintro ⟨k, i, hk, hu, rfl⟩
    exact ⟨l[k], List.getElem_mem hk, by rw [unitOf_at hk, hu]; rfl⟩
theorem unit_lt {l : List Sym} {k i : Nat} (h : unitAt l k = some i) : i < l.length := by
  unfold unitAt at h
  split at h
  · split at h
    · unfold findL at h
      rw [List.findIdx?_eq_some_iff_getElem] at h
      exact h.1
    · cases h
  · cases h
theorem mem_ref {l : List Sym} (x : Int) : x ∈ refTo l l.length ↔ ∃ k i : Nat, k < l.length ∧ unitAt l k = some i ∧ x = i := by
  unfold refTo isU
  simp only [List.mem_map, List.mem_filter, List.mem_range, List.any_eq_true, beq_iff_eq]
  constructor
  · rintro ⟨i, ⟨_, k, hk, hu⟩, rfl⟩; exact ⟨k, i, hk, hu, rfl⟩
  · rintro ⟨k, i, hk, hu, rfl⟩; exact ⟨i, ⟨unit_lt hu, k, hk, hu⟩, rfl⟩
theorem ref_rises (l : List Sym) (n : Nat) : (refTo l n).Pairwise (· < ·) := by
  unfold refTo
  rw [List.pairwise_map]
  refine List.Pairwise.filter _ ?_
  exact List.pairwise_lt_range.imp (fun h => by omega)

theorem strict_eq : ∀ (a b : List Int), a.Pairwise (· < ·) → b.Pairwise (· < ·) → (∀ x, x ∈ a ↔ x ∈ b) → a = b
  | [], [], _, _, _ => rfl
  | [], y :: b, _, _, h => absurd ((h y).2 (List.mem_cons_self)) (by simp)
  | x :: a, [], _, _, h => absurd ((h x).1 (List.mem_cons_self)) (by simp)
  | x :: a, y :: b, ha, hb, h => by
    rw [List.pairwise_cons] at ha hb
    have hxy : x = y := by
      have h1 := (h x).1 List.mem_cons_self
      have h2 := (h y).2 List.mem_cons_self
      rcases List.mem_cons.1 h1 with e | h1
      · exact e
      · rcases List.mem_cons.1 h2 with e | h2
        · exact e.symm
        · have := hb.1 x h1; have := ha.1 y h2; omega
    subst hxy
    rw [strict_eq a b ha.2 hb.2 (fun z => ?_)]
    constructor
    · intro hz
      rcases List.mem_cons.1 ((h z).1 (List.mem_cons_of_mem _ hz)) with e | hz'
      · subst e; have := ha.1 z hz; omega
      · exact hz'
    · intro hz
      rcases List.mem_cons.1 ((h z).2 (List.mem_cons_of_mem _ hz)) with e | hz'
      · subst e; have := hb.1 z hz; omega
      · exact hz'

theorem comp_inv (d : Array Int) (hs : ∀ i j, i ≤ j → j < d.size → d[i]! ≤ d[j]!) : ∀ m, m ≤ d.size → (Lib.compactUpTo d m).Pairwise (· < ·) ∧ ∀ x, x ∈ Lib.compactUpTo d m ↔ ∃ j, j < m ∧ d[j]! = x
  | 0, _ => ⟨by simp [Lib.compactUpTo], fun x => by simp [Lib.compactUpTo]⟩
  | m + 1, hm => by
    obtain ⟨h1, h2⟩ := comp_inv d hs m (by omega)
    rw [Lib.compactUpTo_succ]
    cases hk : Lib.keeps d m with
    | true =>
      rw [if_pos rfl]
      refine ⟨?_, fun x => ?_⟩
      · rw [List.pairwise_append]
        refine ⟨h1, by simp, fun x hx y hy => ?_⟩
        simp at hy
        subst hy
        obtain ⟨j, hj, rfl⟩ := (h2 x).1 hx
        have hne : d[m]! ≠ d[m - 1]! := by
          simp only [Lib.keeps, decide_eq_true_eq] at hk
          rcases hk with e | e
          · omega
          · exact e
        have a1 := hs j (m - 1) (by omega) (by omega)
        have a2 := hs (m - 1) m (by omega) (by omega)
        omega
      · rw [List.mem_append, h2]
        constructor
        · rintro (⟨j, hj, rfl⟩ | hx)
          · exact ⟨j, by omega, rfl⟩
          · simp at hx; exact ⟨m, by omega, hx.symm⟩
        · rintro ⟨j, hj, rfl⟩
          rcases Nat.lt_succ_iff_lt_or_eq.1 hj with hj | rfl
          · exact Or.inl ⟨j, hj, rfl⟩
          · right; simp
    | false =>
      have hk' : ¬ (m = 0 ∨ d[m]! ≠ d[m - 1]!) := by simpa [Lib.keeps] using hk
      simp only [not_or, ne_eq, Decidable.not_not] at hk'
      rw [if_neg (by simp), List.append_nil]
      refine ⟨h1, fun x => ?_⟩
      rw [h2]
      constructor
      · rintro ⟨j, hj, rfl⟩; exact ⟨j, by omega, rfl⟩
      · rintro ⟨j, hj, rfl⟩
        rcases Nat.lt_succ_iff_lt_or_eq.1 hj with hj | rfl
        · exact ⟨j, hj, rfl⟩
        · exact ⟨j - 1, by omega, hk'.2.symm⟩

def sortedI (zs : List Int) : List Int := zs.mergeSort fun x y => decide (x ≤ y)
theorem sorted_rises (zs : List Int) : (sortedI zs).Pairwise (· ≤ ·) := by
  have := List.pairwise_mergeSort (le := fun x y : Int => decide (x ≤ y)) (fun a b c h1 h2 => by simp at *; omega) (fun a b => by simp; omega) zs
  exact this.imp (fun h => by simpa using h)
theorem compact_sorted (zs : List Int) : (Lib.compact (sortedI zs)).Pairwise (· < ·) ∧ ∀ x, x ∈ Lib.compact (sortedI zs) ↔ x ∈ zs := by
  have hp := sorted_rises zs
  have hs : ∀ i j, i ≤ j → j < (sortedI zs).toArray.size → (sortedI zs).toArray[i]! ≤ (sortedI zs).toArray[j]! := by
    intro i j hij hj
    have hj' : j < (sortedI zs).length := by simpa using hj
    rw [getElem!_pos _ i (by simp; omega), getElem!_pos _ j hj]
    simp only [List.getElem_toArray]
    rcases Nat.lt_or_eq_of_le hij with h | rfl
    · exact List.pairwise_iff_getElem.1 hp i j (by omega) hj' h
    · omega
  obtain ⟨h1, h2⟩ := comp_inv (sortedI zs).toArray hs (sortedI zs).length (by simp)
  refine ⟨h1, fun x => ?_⟩
  have e : x ∈ zs ↔ x ∈ sortedI zs := by unfold sortedI; rw [List.mem_mergeSort]
  rw [e]
  unfold Lib.compact
  rw [h2]
  constructor
  · rintro ⟨j, hj, rfl⟩
    rw [getElem!_pos _ j (by simpa using hj)]
    simp
  · intro hx
    obtain ⟨j, hj, rfl⟩ := List.getElem_of_mem hx
    exact ⟨j, hj, by rw [getElem!_pos _ j (by simpa using hj)]; simp⟩
/-- THE TWO ARE ONE. -/
theorem units_eq (l : List Sym) : Lib.compact (sortedI (rawTo l l.length)) = refTo l l.length := by
  obtain ⟨h1, h2⟩ := compact_sorted (rawTo l l.length)
  exact strict_eq _ _ h1 (ref_rises l l.length) (fun x => by rw [h2, mem_raw, mem_ref])
end Go.Proofs.Ytplekhfnidhcoaa
