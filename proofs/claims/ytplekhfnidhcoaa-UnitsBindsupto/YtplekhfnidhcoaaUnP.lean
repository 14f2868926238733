/- No two ways have the same binds, plainly. -/
import Derived.Test.YtplekhfnidhcoaaUnB
import Derived.Sort.Walk0
namespace Go.Proofs.Ytplekhfnidhcoaa
open Go.RowKit Go.Shelf

theorem wayR_sub (us : List Int) : ∀ (r : List ByteArray) (k : Nat), ((wayR us r k).map Prod.fst).Sublist r.reverse
  | [], _ => List.Sublist.refl _
  | v :: r, k => by
    rw [wayR_step, List.map_append, List.reverse_cons]
    refine (wayR_sub us r _).append ?_
    split
    · exact List.nil_sublist _
    · exact List.Sublist.refl _
theorem wayR_sym (us : List Int) : ∀ (r : List ByteArray) (k : Nat), ∀ x ∈ wayR us r k, x.2 ∈ us
  | [], _, x, h => by cases h
  | v :: r, k, x, h => by
    rw [wayR_step, List.mem_append] at h
    rcases h with h | h
    · exact wayR_sym us r _ x h
    · split at h
      · cases h
      · rename_i h0
        rw [List.mem_singleton] at h
        subst h
        have hm : k % (us.length + 1) < us.length + 1 := Nat.mod_lt _ (by omega)
        have hlt : k % (us.length + 1) - 1 < us.length := by omega
        show us.getD _ 0 ∈ us
        rw [List.getD_eq_getElem?_getD, List.getElem?_eq_getElem hlt]
        exact List.getElem_mem hlt
theorem getD_inj {us : List Int} (hu : us.Nodup) {i j : Nat} (hi : i < us.length) (hj : j < us.length) (h : us.getD i 0 = us.getD j 0) : i = j := by
  rw [List.getD_eq_getElem?_getD, List.getD_eq_getElem?_getD, List.getElem?_eq_getElem hi, List.getElem?_eq_getElem hj] at h
  have h : us[i] = us[j] := h
  have hp := List.pairwise_iff_getElem.1 hu
  rcases Nat.lt_trichotomy i j with h1 | h1 | h1
  · exact absurd h (hp i j hi hj h1)
  · exact h1
  · exact absurd h.symm (hp j i hj hi h1)
theorem wayR_inj {us : List Int} (hu : us.Nodup) : ∀ (r : List ByteArray), r.Nodup → ∀ k k' : Nat, k < (us.length + 1) ^ r.length → k' < (us.length + 1) ^ r.length → wayR us r k = wayR us r k' → k = k'
  | [], _, k, k', h1, h2, _ => by simp only [List.length_nil, Nat.pow_zero] at h1 h2; omega
  | v :: r, hr, k, k', h1, h2, h => by
    rw [List.nodup_cons] at hr
    rw [wayR_step, wayR_step] at h
    have b0 : 0 < us.length + 1 := by omega
    rw [List.length_cons, Nat.pow_succ] at h1 h2
    have q1 : k / (us.length + 1) < (us.length + 1) ^ r.length := (Nat.div_lt_iff_lt_mul b0).2 h1
    have q2 : k' / (us.length + 1) < (us.length + 1) ^ r.length := (Nat.div_lt_iff_lt_mul b0).2 h2
    have ih := wayR_inj hu r hr.2 _ _ q1 q2
    have m1 : k % (us.length + 1) < us.length + 1 := Nat.mod_lt _ b0
    have m2 : k' % (us.length + 1) < us.length + 1 := Nat.mod_lt _ b0
    have e1 := Nat.div_add_mod k (us.length + 1)
    have e2 := Nat.div_add_mod k' (us.length + 1)
    have no : ∀ K (z : Int) (l : List Bl), (v, z) ∈ l → wayR us r K ≠ l := fun K z l hl e => by
      subst e
      have h3 : v ∈ (wayR us r K).map Prod.fst := List.mem_map.2 ⟨_, hl, rfl⟩
      have h4 := (wayR_sub us r K).subset h3
      exact hr.1 (by simpa using h4)
    by_cases z1 : k % (us.length + 1) = 0
    · by_cases z2 : k' % (us.length + 1) = 0
      · rw [if_pos z1, if_pos z2, List.append_nil, List.append_nil] at h
        rw [← e1, ← e2, ih h, z1, z2]
      · rw [if_pos z1, if_neg z2, List.append_nil] at h
        exact absurd h (no _ (us.getD (k' % (us.length + 1) - 1) 0) _ (by simp))
    · by_cases z2 : k' % (us.length + 1) = 0
      · rw [if_neg z1, if_pos z2, List.append_nil] at h
        exact absurd h.symm (no _ (us.getD (k % (us.length + 1) - 1) 0) _ (by simp))
      · rw [if_neg z1, if_neg z2] at h
        have h5 := List.append_inj' h rfl
        have h6 := h5.2
        injection h6 with h6
        injection h6 with _ h6
        have h7 := getD_inj hu (by omega) (by omega) h6
        rw [← e1, ← e2, ih h5.1]
        congr 1
        omega
/-- Names that rise. -/
def Rise (vs : List ByteArray) : Prop := vs.Pairwise (fun a b => a.toList < b.toList)
theorem Rise.nodup {vs : List ByteArray} (h : Rise vs) : vs.Nodup := List.Pairwise.imp (fun {a b} hab e => by subst e; exact absurd hab (List.lt_irrefl _)) h
theorem rise_of {vs : List ByteArray} (h : ∀ i (h : i + 1 < vs.length), vs[i].toList < vs[i + 1].toList) : Rise vs := by
  unfold Rise
  induction vs with
  | nil => exact List.Pairwise.nil
  | cons v r ih =>
    have ihr := ih (fun i hi => h (i + 1) (by simp; omega))
    refine List.pairwise_cons.2 ⟨fun x hx => ?_, ihr⟩
    cases r with
    | nil => cases hx
    | cons y r =>
      have h0 : v.toList < y.toList := h 0 (by simp)
      rcases List.mem_cons.1 hx with rfl | hx
      · exact h0
      · exact List.lt_trans h0 ((List.pairwise_cons.1 ihr).1 x hx)
theorem wayO_rise {us : List Int} {vs : List ByteArray} (k : Int) (h : Rise vs) (i : Nat) (hi : i + 1 < (wayO us vs k).1.length) : ((wayO us vs k).1[i]).1.toList < ((wayO us vs k).1[i + 1]).1.toList := by
  have hp : ((wayO us vs k).1.map Prod.fst).Pairwise (fun a b => a.toList < b.toList) := by
    unfold wayO
    split
    · exact List.Pairwise.nil
    · split
      · have hs := wayR_sub us vs.reverse k.toNat
        rw [List.reverse_reverse] at hs
        exact List.Pairwise.sublist hs h
      · exact List.Pairwise.nil
  have := List.pairwise_iff_getElem.1 hp i (i + 1) (by simp; omega) (by simpa using hi) (by omega)
  simpa using this
theorem wayO_sym {us : List Int} {vs : List ByteArray} (k : Int) : ∀ x ∈ (wayO us vs k).1, x.2 ∈ us := by
  unfold wayO
  split
  · intro x hx; cases hx
  · split
    · exact wayR_sym us _ _
    · intro x hx; cases hx
theorem wayO_inj {us : List Int} {vs : List ByteArray} (hu : us.Nodup) (hv : Rise vs) {a b : Int} (ha : (wayO us vs a).2 = true) (hb : (wayO us vs b).2 = true) : decide ((wayO us vs a).1 = (wayO us vs b).1) = decide (a = b) := by
  have ex : ∀ k : Int, (wayO us vs k).2 = true → 0 ≤ k ∧ k.toNat < (us.length + 1) ^ vs.reverse.length ∧ (wayO us vs k).1 = wayR us vs.reverse k.toNat := fun k hk => by
    unfold wayO at hk ⊢
    by_cases h : k < 0
    · rw [if_pos h] at hk; cases hk
    · rw [if_neg h] at hk ⊢
      by_cases h2 : k.toNat / (us.length + 1) ^ vs.length = 0
      · rw [if_pos h2]
        refine ⟨by omega, ?_, rfl⟩
        rw [List.length_reverse]
        have hpos : 0 < (us.length + 1) ^ vs.length := Nat.pow_pos (by omega)
        rcases Nat.div_eq_zero_iff.1 h2 with h3 | h3
        · omega
        · exact h3
      · rw [if_neg h2] at hk; cases hk
  obtain ⟨a0, a1, a2⟩ := ex a ha
  obtain ⟨b0, b1, b2⟩ := ex b hb
  by_cases h : a = b
  · subst h
    rw [decide_eq_true rfl, decide_eq_true rfl]
  · rw [decide_eq_false h]
    refine decide_eq_false (fun e => h ?_)
    rw [a2, b2] at e
    have := wayR_inj hu vs.reverse (List.pairwise_reverse.2 (hv.nodup.imp (fun h e => h e.symm))) _ _ a1 b1 e
    omega
end Go.Proofs.Ytplekhfnidhcoaa
