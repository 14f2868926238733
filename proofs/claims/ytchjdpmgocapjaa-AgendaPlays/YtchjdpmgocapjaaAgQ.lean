/- A heap: what Push, Fix and Remove leave, as a set. -/
import Derived.Test.YtchjdpmgocapjaaAgP
namespace Go.Proofs.Ytchjdpmgocapjaa

theorem swE_perm (es : List En) (i j : Nat) (hi : i < es.length) (hj : j < es.length) : (swE es i j hi hj).Perm es := List.set_set_perm hi hj
theorem up_perm : ∀ (j : Nat) (es : List En), (upE es j).Perm es := by
  intro j
  induction j using Nat.strongRecOn with
  | _ j ih =>
    intro es
    rw [upE_eq]
    split
    · split
      · exact (ih _ (by omega) _).trans (swE_perm _ _ _ _ _)
      · exact List.Perm.refl _
    · exact List.Perm.refl _
theorem down_perm (n : Nat) : ∀ (d i : Nat) (es : List En), n - i ≤ d → (downE es i n).1.Perm es := by
  intro d
  induction d with
  | zero => intro i es hd; rw [down_end (by omega)]
  | succ d ih =>
    intro i es hd
    rw [downE_eq]
    split
    · rename_i h
      have hk := kid_lt h.1 h.2
      split
      · exact (ih _ _ (by omega)).trans (swE_perm _ _ _ _ _)
      · exact List.Perm.refl _
    · exact List.Perm.refl _
theorem fix_perm (es : List En) (i n : Nat) : (fixE es i n).Perm es := by
  unfold fixE
  split
  · exact down_perm n (n - i) i es (Nat.le_refl _)
  · exact (up_perm i _).trans (down_perm n (n - i) i es (Nat.le_refl _))
theorem up_above : ∀ (j : Nat) (es : List En) (k : Nat), j < k → (upE es j)[k]? = es[k]? := by
  intro j
  induction j using Nat.strongRecOn with
  | _ j ih =>
    intro es k hk
    rw [upE_eq]
    split
    · split
      · rw [ih _ (by omega) _ k (by omega)]
        unfold swE
        rw [List.getElem?_set_ne (by omega), List.getElem?_set_ne (by omega)]
      · rfl
    · rfl
theorem down_above (n : Nat) : ∀ (d i : Nat) (es : List En), n - i ≤ d → i < n → ∀ k, n ≤ k → (downE es i n).1[k]? = es[k]? := by
  intro d
  induction d with
  | zero => intro i es hd; omega
  | succ d ih =>
    intro i es hd hi k hk
    rw [downE_eq]
    split
    · rename_i h
      have hkd := kid_lt h.1 h.2
      split
      · rw [ih _ _ (by omega) (by omega) k hk]
        unfold swE
        rw [List.getElem?_set_ne (by omega), List.getElem?_set_ne (by omega)]
      · rfl
    · rfl
theorem erase_perm : ∀ (es : List En) (i : Nat) (hi : i < es.length), (es[i] :: es.eraseIdx i).Perm es
  | e :: r, 0, _ => List.Perm.refl _
  | e :: r, i + 1, hi => by
    have h := erase_perm r i (by simpa using hi)
    simp only [List.getElem_cons_succ, List.eraseIdx_cons_succ]
    exact (List.Perm.swap _ _ _).trans (h.cons e)
/-- What Remove leaves: all but the one at that place, a heap again. -/
theorem out_spec {es : List En} {i n : Nat} (hi : i < es.length) (hl : es.length = n + 1) (hH : HeapTo es es.length) : (outE es i n hi (by omega)).dropLast.Perm (es.eraseIdx i) ∧ HeapTo (outE es i n hi (by omega)).dropLast n ∧ (outE es i n hi (by omega)).dropLast.length = n := by
  have hn : n < es.length := by omega
  have hk := (out_keeps es i n hi hn).1
  suffices hs : (outE es i n hi hn).Perm es ∧ (outE es i n hi hn)[n]? = es[i]? ∧ HeapTo (outE es i n hi hn) n by
    obtain ⟨h1, h2, h3⟩ := hs
    refine ⟨?_, fun k h hkn hk0 => ?_, by rw [List.length_dropLast]; omega⟩
    · have e1 : outE es i n hi hn = (outE es i n hi hn).dropLast ++ [es[i]] := by
        have hne : outE es i n hi hn ≠ [] := fun h => by rw [h] at hk; simp at hk; omega
        conv => lhs; rw [← List.dropLast_concat_getLast hne]
        congr 2
        rw [List.getLast_eq_getElem]
        have h4 : (outE es i n hi hn)[(outE es i n hi hn).length - 1]? = some es[i] := by rw [show (outE es i n hi hn).length - 1 = n by omega, h2, List.getElem?_eq_getElem hi]
        exact (List.getElem?_eq_some_iff.1 h4).2
      have e2 : (es[i] :: es.eraseIdx i).Perm es := erase_perm es i hi
      have e3 : (es[i] :: (outE es i n hi hn).dropLast).Perm (es[i] :: es.eraseIdx i) := by
        refine (List.Perm.trans ?_ h1).trans e2.symm
        conv => rhs; rw [e1]
        exact (List.perm_append_comm (l₁ := [es[i]]))
      exact e3.cons_inv
    · rw [List.getElem_dropLast, List.getElem_dropLast]
      exact h3 k (by rw [List.length_dropLast] at h; omega) hkn hk0
  unfold outE
  split
  · rename_i h
    subst h
    exact ⟨List.Perm.refl _, rfl, fun k h hk hk0 => hH k h h hk0⟩
  · rename_i h
    have hin : i < n := by omega
    have hsl := swE_len es i n hi hn
    refine ⟨(fix_perm _ _ _).trans (swE_perm _ _ _ _ _), ?_, ?_⟩
    · have hs : (swE es i n hi hn)[n]? = es[i]? := by
        rw [List.getElem?_eq_getElem (by omega), List.getElem?_eq_getElem hi, (sw_at (hi := hi) (hj := hn) n hn (by omega)).1 rfl]
      rw [← hs]
      unfold fixE
      split
      · exact down_above n (n - i) i _ (Nat.le_refl _) hin n (Nat.le_refl _)
      · rw [up_above i _ n hin]
        exact down_above n (n - i) i _ (Nat.le_refl _) hin n (Nat.le_refl _)
    · refine fix_heap hin (by omega) (fun k h hk hk0 hki hp => ?_) (fun k h hk hk0 hp hi0 => ?_)
      · rw [(sw_at (hi := hi) (hj := hn) k (by omega) h).2.2 hki (by omega), (sw_at (hi := hi) (hj := hn) ((k - 1) / 2) (by omega) (by omega)).2.2 hp (by omega)]
        exact hH k (by omega) (by omega) hk0
      · rw [(sw_at (hi := hi) (hj := hn) k (by omega) h).2.2 (by omega) (by omega), (sw_at (hi := hi) (hj := hn) ((i - 1) / 2) (by omega) (by omega)).2.2 (by omega) (by omega)]
        have c := hH k (by omega) (by omega) hk0
        have d := hH i hi hi hi0
        rw [get_eq hp _ hi] at c
        rw [less_not] at c d ⊢
        omega
/-- What Fix leaves behind one entry's turn. -/
theorem weigh_spec {es : List En} {i : Nat} (hi : i < es.length) (hH : HeapTo es es.length) (e : En) : (fixE (es.set i e) i es.length).Perm (es.set i e) ∧ HeapTo (fixE (es.set i e) i es.length) es.length := by
  refine ⟨fix_perm _ _ _, fix_heap hi (by simp) (fun k h hk hk0 hki hp => ?_) (fun k h hk hk0 hp hi0 => ?_)⟩
  · rw [List.getElem_set_ne (by omega), List.getElem_set_ne (by omega)]
    exact hH k hk hk hk0
  · rw [List.getElem_set_ne (by omega), List.getElem_set_ne (by omega)]
    have c := hH k hk hk hk0
    have d := hH i hi hi hi0
    rw [get_eq hp _ hi] at c
    rw [less_not] at c d ⊢
    omega
/-- What Push leaves. -/
theorem push_spec {es : List En} (hH : HeapTo es es.length) (e : En) : (upE (es ++ [e]) es.length).Perm (es ++ [e]) ∧ HeapTo (upE (es ++ [e]) es.length) (es.length + 1) := by
  refine ⟨up_perm _ _, up_heap _ es.length _ (by simp) (by omega) (by simp) (fun k h hk hk0 hki => ?_) (fun k h hk hk0 hp _ => by omega)⟩
  have hk' : k < es.length := by omega
  rw [List.getElem_append_left hk', List.getElem_append_left (by omega)]
  exact hH k hk' hk' hk0
end Go.Proofs.Ytchjdpmgocapjaa
