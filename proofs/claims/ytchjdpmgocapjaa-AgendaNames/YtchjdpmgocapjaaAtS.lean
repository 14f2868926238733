/- All things of an agenda as they come out. -/
import Derived.Test.YtchjdpmgocapjaaAtI
namespace Go.Proofs.Ytchjdpmgocapjaa.S

theorem less_iff (e f : En) : lessE e f = true ↔ e.wt < f.wt ∨ (e.wt = f.wt ∧ e.tk < f.tk) := by
  unfold lessE ordI orI cmpI
  rw [decide_eq_true_iff]
  split <;> split at * <;> (try split at *) <;> (try split) <;> (try split) <;> omega
theorem less_not (e f : En) : lessE e f = false ↔ f.wt < e.wt ∨ (e.wt = f.wt ∧ f.tk ≤ e.tk) := by
  rw [← Bool.not_eq_true, less_iff]
  omega
/-- Among the first n none comes ahead of what lies above it. -/
def HeapTo (es : List En) (n : Nat) : Prop := ∀ k (h : k < es.length), k < n → 0 < k → lessE es[k] (es[(k - 1) / 2]'(by omega)) = false
theorem get_eq {es : List En} {i j : Nat} (h : i = j) (hi : i < es.length) (hj : j < es.length) : es[i] = es[j] := by subst h; rfl
theorem sw_at {es : List En} {i j : Nat} {hi : i < es.length} {hj : j < es.length} (k : Nat) (hk : k < es.length) (hk' : k < (swE es i j hi hj).length) : (k = j → (swE es i j hi hj)[k] = es[i]) ∧ (k = i → (swE es i j hi hj)[k] = es[j]) ∧ (k ≠ i → k ≠ j → (swE es i j hi hj)[k] = es[k]) := by
  rw [swE_at]
  refine ⟨fun h => by rw [if_pos h], fun h => ?_, fun h1 h2 => by rw [if_neg h2, if_neg h1]⟩
  by_cases h2 : k = j
  · rw [if_pos h2]; exact get_eq (h.symm.trans h2) hi hj
  · rw [if_neg h2, if_pos h]
theorem up_heap (n : Nat) : ∀ (j : Nat) (es : List En) (hj : j < es.length), j < n → n ≤ es.length →
    (∀ k (h : k < es.length), k < n → 0 < k → k ≠ j → lessE es[k] (es[(k - 1) / 2]'(by omega)) = false) →
    (∀ k (h : k < es.length), k < n → 0 < k → (k - 1) / 2 = j → 0 < j → lessE es[k] (es[(j - 1) / 2]'(by omega)) = false) → HeapTo (upE es j) n := by
  intro j
  induction j using Nat.strongRecOn with
  | _ j ih =>
    intro es hj hjn hnl h1 h2
    by_cases h0 : j = 0
    · subst h0
      have e : upE es 0 = es := by rw [upE_eq]; simp
      rw [e]
      exact fun k h hk hk0 => h1 k h hk hk0 (by omega)
    · obtain ⟨i, hi⟩ : ∃ i, (j - 1) / 2 = i := ⟨_, rfl⟩
      have hil : i < es.length := by omega
      cases hb : lessE es[j] es[i] with
      | false =>
        rw [up_stop (by omega) hj hi hil hb]
        intro k h hk hk0
        by_cases hkj : k = j
        · subst hkj
          rw [get_eq hi _ hil]
          exact hb
        · exact h1 k h hk hk0 hkj
      | true =>
        rw [up_step (by omega) hj hi hil hb]
        have hlen := swE_len es i j hil hj
        have bt := (less_iff _ _).1 hb
        refine ih i (by omega) _ (by omega) (by omega) (by omega) (fun k h hk hk0 hki => ?_) (fun k h hk hk0 hkp hi0 => ?_)
        · have hk' : k < es.length := by omega
          have hp' : (k - 1) / 2 < es.length := by omega
          have a1 := sw_at (hi := hil) (hj := hj) k hk' h
          have a2 := sw_at (hi := hil) (hj := hj) ((k - 1) / 2) hp' (by omega)
          by_cases hkj : k = j
          · rw [a1.1 hkj, a2.2.1 (by omega), less_not]
            omega
          · rw [a1.2.2 hki hkj]
            by_cases hpi : (k - 1) / 2 = i
            · rw [a2.2.1 hpi, less_not]
              have c := h1 k hk' hk hk0 hkj
              rw [get_eq hpi hp' hil, less_not] at c
              omega
            · by_cases hpj : (k - 1) / 2 = j
              · rw [a2.1 hpj]
                have c := h2 k hk' hk hk0 hpj (by omega)
                rw [get_eq hi _ hil] at c
                exact c
              · rw [a2.2.2 hpi hpj]
                exact h1 k hk' hk hk0 hkj
        · have hk' : k < es.length := by omega
          have hp' : (i - 1) / 2 < es.length := by omega
          have a1 := sw_at (hi := hil) (hj := hj) k hk' h
          have a2 := sw_at (hi := hil) (hj := hj) ((i - 1) / 2) hp' (by omega)
          rw [a2.2.2 (by omega) (by omega)]
          have ci := h1 i hil (by omega) hi0 (by omega)
          by_cases hkj : k = j
          · rw [a1.1 hkj]
            exact ci
          · rw [a1.2.2 (by omega) hkj, less_not]
            have c := h1 k hk' hk hk0 hkj
            rw [get_eq hkp _ hil, less_not] at c
            rw [less_not] at ci
            omega
theorem kid_least {es : List En} {i n : Nat} (hn : n ≤ es.length) (h1 : 2 * i + 1 < n) (k : Nat) (hk : k < n) (hk0 : 0 < k) (hp : (k - 1) / 2 = i) : lessE (es[k]'(by omega)) (es[kidE es i n hn h1]'(by have := kid_lt hn h1; omega)) = false ∧ (kidE es i n hn h1 - 1) / 2 = i ∧ 0 < kidE es i n hn h1 := by
  have hir : ∀ e : En, lessE e e = false := fun e => by rw [less_not]; omega
  have hk2 : k = 2 * i + 1 ∨ k = 2 * i + 2 := by omega
  unfold kidE
  split
  · rename_i h2
    split
    · rename_i hb
      have bt := (less_iff _ _).1 hb
      refine ⟨?_, by omega, by omega⟩
      rcases hk2 with h | h
      · subst h; rw [less_not]; omega
      · subst h; exact hir _
    · rename_i hb
      rw [Bool.not_eq_true] at hb
      refine ⟨?_, by omega, by omega⟩
      rcases hk2 with h | h
      · subst h; exact hir _
      · subst h; exact hb
  · refine ⟨?_, by omega, by omega⟩
    rcases hk2 with h | h
    · subst h; exact hir _
    · omega
theorem down_heap (n : Nat) : ∀ (d i : Nat) (es : List En), n - i ≤ d → (hi : i < n) → (hn : n ≤ es.length) →
    (∀ k (h : k < es.length), k < n → 0 < k → k ≠ i → (k - 1) / 2 ≠ i → lessE es[k] (es[(k - 1) / 2]'(by omega)) = false) →
    (∀ k (h : k < es.length), k < n → 0 < k → (k - 1) / 2 = i → 0 < i → lessE es[k] (es[(i - 1) / 2]'(by omega)) = false) →
    ((downE es i n).2 = i → (downE es i n).1 = es ∧ ∀ k (h : k < es.length), k < n → 0 < k → (k - 1) / 2 = i → lessE es[k] (es[(k - 1) / 2]'(by omega)) = false) ∧
    (i < (downE es i n).2 → HeapTo (downE es i n).1 n) := by
  intro d
  induction d with
  | zero => intro i es hd hi; omega
  | succ d ih =>
    intro i es hd hi hn h1 h2
    by_cases hkid : 2 * i + 1 < n
    · obtain ⟨j, hj⟩ : ∃ j, kidE es i n hn hkid = j := ⟨_, rfl⟩
      have hlt := kid_lt hn hkid
      rw [hj] at hlt
      have hil : i < es.length := by omega
      have hjl : j < es.length := by omega
      have least : ∀ k (h : k < es.length), k < n → 0 < k → (k - 1) / 2 = i → lessE es[k] es[j] = false := fun k h hk hk0 hp => by
        have := (kid_least hn hkid k hk hk0 hp).1
        rw [get_eq hj _ hjl] at this
        exact this
      have hjp := (kid_least hn hkid (2 * i + 1) hkid (by omega) (by omega)).2
      rw [hj] at hjp
      cases hb : lessE es[j] es[i] with
      | false =>
        rw [down_stop hn hkid hj hil hjl hb]
        refine ⟨fun _ => ⟨rfl, fun k h hk hk0 hp => ?_⟩, fun h => absurd h (Nat.lt_irrefl _)⟩
        rw [get_eq hp _ hil]
        have c := least k h hk hk0 hp
        rw [less_not] at c hb ⊢
        omega
      | true =>
        rw [down_step hn hkid hj hil hjl hb]
        have hlen := swE_len es i j hil hjl
        have bt := (less_iff _ _).1 hb
        have hk := down_keeps n (n - j) j (swE es i j hil hjl) (Nat.le_refl _)
        have ok : ∀ k (h : k < (swE es i j hil hjl).length), k < n → 0 < k → (k - 1) / 2 ≠ j → lessE (swE es i j hil hjl)[k] ((swE es i j hil hjl)[(k - 1) / 2]'(by omega)) = false := fun k h hk hk0 hpj => by
          have hk' : k < es.length := by omega
          have hp' : (k - 1) / 2 < es.length := by omega
          have a1 := sw_at (hi := hil) (hj := hjl) k hk' h
          have a2 := sw_at (hi := hil) (hj := hjl) ((k - 1) / 2) hp' (by omega)
          by_cases hki : k = i
          · subst hki
            rw [a1.2.1 rfl, a2.2.2 (by omega) (by omega)]
            exact h2 j hjl (by omega) (by omega) hjp.1 hk0
          · by_cases hpi : (k - 1) / 2 = i
            · rw [a2.2.1 hpi]
              by_cases hkj : k = j
              · rw [a1.1 hkj, less_not]; omega
              · rw [a1.2.2 hki hkj]
                exact least k hk' hk hk0 hpi
            · by_cases hkj : k = j
              · omega
              · rw [a1.2.2 hki hkj, a2.2.2 hpi hpj]
                exact h1 k hk' hk hk0 hki hpi
        obtain ⟨g1, g2⟩ := ih j (swE es i j hil hjl) (by omega) (by omega) (by omega) (fun k h hk hk0 _ hpj => ok k h hk hk0 hpj) (fun k h hk hk0 hkp hj0 => by
          have hk' : k < es.length := by omega
          have a1 := sw_at (hi := hil) (hj := hjl) k hk' h
          have a2 := sw_at (hi := hil) (hj := hjl) ((j - 1) / 2) (by omega) (by omega)
          rw [a1.2.2 (by omega) (by omega), a2.2.1 hjp.1]
          have c := h1 k hk' hk hk0 (by omega) (by omega)
          rw [get_eq hkp _ hjl] at c
          exact c)
        refine ⟨fun h => by omega, fun _ => ?_⟩
        by_cases hmove : (downE (swE es i j hil hjl) j n).2 = j
        · obtain ⟨e, g3⟩ := g1 hmove
          rw [e]
          intro k h hk hk0
          by_cases hpj : (k - 1) / 2 = j
          · exact g3 k h hk hk0 hpj
          · exact ok k h hk hk0 hpj
        · exact g2 (by omega)
    · rw [down_end hkid]
      exact ⟨fun _ => ⟨rfl, fun k h hk hk0 hp => by omega⟩, fun h => absurd h (Nat.lt_irrefl _)⟩
/-- One entry stands at any place; all else is a heap: Fix makes a heap of it. -/
theorem fix_heap {es : List En} {i n : Nat} (hi : i < n) (hn : n ≤ es.length)
    (h1 : ∀ k (h : k < es.length), k < n → 0 < k → k ≠ i → (k - 1) / 2 ≠ i → lessE es[k] (es[(k - 1) / 2]'(by omega)) = false)
    (h2 : ∀ k (h : k < es.length), k < n → 0 < k → (k - 1) / 2 = i → 0 < i → lessE es[k] (es[(i - 1) / 2]'(by omega)) = false) : HeapTo (fixE es i n) n := by
  obtain ⟨g1, g2⟩ := down_heap n (n - i) i es (Nat.le_refl _) hi hn h1 h2
  have hk := (down_keeps n (n - i) i es (Nat.le_refl _)).2.1
  unfold fixE
  split
  · rename_i h
    exact g2 h
  · rename_i h
    obtain ⟨e, g3⟩ := g1 (by omega)
    rw [e]
    refine up_heap n i es (by omega) hi hn (fun k h hk hk0 hki => ?_) h2
    by_cases hp : (k - 1) / 2 = i
    · exact g3 k h hk hk0 hp
    · exact h1 k h hk hk0 hki hp
/-- What lies above all comes ahead of all. -/
theorem heap_least {es : List En} {n : Nat} (h : HeapTo es n) : ∀ (k : Nat) (hk : k < es.length), k < n → lessE es[k] (es[0]'(by omega)) = false := by
  intro k
  induction k using Nat.strongRecOn with
  | _ k ih =>
    intro hk hkn
    by_cases h0 : k = 0
    · subst h0
      rw [less_not]
      omega
    · have c := h k hk hkn (by omega)
      have d := ih ((k - 1) / 2) (by omega) (by omega) (by omega)
      rw [less_not] at c d ⊢
      omega
end Go.Proofs.Ytchjdpmgocapjaa.S

namespace Go.Proofs.Ytchjdpmgocapjaa.S

theorem swE_perm (es : List En) (i j : Nat) (hi : i < es.length) (hj : j < es.length) : (swE es i j hi hj).Perm es := List.set_set_perm hi hj
theorem up_perm : ∀ (j : Nat) (es : List En), (upE es j).Perm es := by
  intro j
  induction j using Nat.strongRecOn with
  | _ j ih =>
    intro es
    rw [upE_eq]
    split
    · split
      · exact (ih _ (by omega) _).trans (swE_perm _ _ _ _ _)
      · exact List.Perm.refl _
    · exact List.Perm.refl _
theorem down_perm (n : Nat) : ∀ (d i : Nat) (es : List En), n - i ≤ d → (downE es i n).1.Perm es := by
  intro d
  induction d with
  | zero => intro i es hd; rw [down_end (by omega)]
  | succ d ih =>
    intro i es hd
    rw [downE_eq]
    split
    · rename_i h
      have hk := kid_lt h.1 h.2
      split
      · exact (ih _ _ (by omega)).trans (swE_perm _ _ _ _ _)
      · exact List.Perm.refl _
    · exact List.Perm.refl _
theorem fix_perm (es : List En) (i n : Nat) : (fixE es i n).Perm es := by
  unfold fixE
  split
  · exact down_perm n (n - i) i es (Nat.le_refl _)
  · exact (up_perm i _).trans (down_perm n (n - i) i es (Nat.le_refl _))
theorem up_above : ∀ (j : Nat) (es : List En) (k : Nat), j < k → (upE es j)[k]? = es[k]? := by
  intro j
  induction j using Nat.strongRecOn with
  | _ j ih =>
    intro es k hk
    rw [upE_eq]
    split
    · split
      · rw [ih _ (by omega) _ k (by omega)]
        unfold swE
        rw [List.getElem?_set_ne (by omega), List.getElem?_set_ne (by omega)]
      · rfl
    · rfl
theorem down_above (n : Nat) : ∀ (d i : Nat) (es : List En), n - i ≤ d → i < n → ∀ k, n ≤ k → (downE es i n).1[k]? = es[k]? := by
  intro d
  induction d with
  | zero => intro i es hd; omega
  | succ d ih =>
    intro i es hd hi k hk
    rw [downE_eq]
    split
    · rename_i h
      have hkd := kid_lt h.1 h.2
      split
      · rw [ih _ _ (by omega) (by omega) k hk]
        unfold swE
        rw [List.getElem?_set_ne (by omega), List.getElem?_set_ne (by omega)]
      · rfl
    · rfl
theorem erase_perm : ∀ (es : List En) (i : Nat) (hi : i < es.length), (es[i] :: es.eraseIdx i).Perm es
  | e :: r, 0, _ => List.Perm.refl _
  | e :: r, i + 1, hi => by
    have h := erase_perm r i (by simpa using hi)
    simp only [List.getElem_cons_succ, List.eraseIdx_cons_succ]
    exact (List.Perm.swap _ _ _).trans (h.cons e)
/-- What Remove leaves: all but the one at that place, a heap again. -/
theorem out_spec {es : List En} {i n : Nat} (hi : i < es.length) (hl : es.length = n + 1) (hH : HeapTo es es.length) : (outE es i n hi (by omega)).dropLast.Perm (es.eraseIdx i) ∧ HeapTo (outE es i n hi (by omega)).dropLast n ∧ (outE es i n hi (by omega)).dropLast.length = n := by
  have hn : n < es.length := by omega
  have hk := (out_keeps es i n hi hn).1
  suffices hs : (outE es i n hi hn).Perm es ∧ (outE es i n hi hn)[n]? = es[i]? ∧ HeapTo (outE es i n hi hn) n by
    obtain ⟨h1, h2, h3⟩ := hs
    refine ⟨?_, fun k h hkn hk0 => ?_, by rw [List.length_dropLast]; omega⟩
    · have e1 : outE es i n hi hn = (outE es i n hi hn).dropLast ++ [es[i]] := by
        have hne : outE es i n hi hn ≠ [] := fun h => by rw [h] at hk; simp at hk; omega
        conv => lhs; rw [← List.dropLast_concat_getLast hne]
        congr 2
        rw [List.getLast_eq_getElem]
        have h4 : (outE es i n hi hn)[(outE es i n hi hn).length - 1]? = some es[i] := by rw [show (outE es i n hi hn).length - 1 = n by omega, h2, List.getElem?_eq_getElem hi]
        exact (List.getElem?_eq_some_iff.1 h4).2
      have e2 : (es[i] :: es.eraseIdx i).Perm es := erase_perm es i hi
      have e3 : (es[i] :: (outE es i n hi hn).dropLast).Perm (es[i] :: es.eraseIdx i) := by
        refine (List.Perm.trans ?_ h1).trans e2.symm
        conv => rhs; rw [e1]
        exact (List.perm_append_comm (l₁ := [es[i]]))
      exact e3.cons_inv
    · rw [List.getElem_dropLast, List.getElem_dropLast]
      exact h3 k (by rw [List.length_dropLast] at h; omega) hkn hk0
  unfold outE
  split
  · rename_i h
    subst h
    exact ⟨List.Perm.refl _, rfl, fun k h hk hk0 => hH k h h hk0⟩
  · rename_i h
    have hin : i < n := by omega
    have hsl := swE_len es i n hi hn
    refine ⟨(fix_perm _ _ _).trans (swE_perm _ _ _ _ _), ?_, ?_⟩
    · have hs : (swE es i n hi hn)[n]? = es[i]? := by
        rw [List.getElem?_eq_getElem (by omega), List.getElem?_eq_getElem hi, (sw_at (hi := hi) (hj := hn) n hn (by omega)).1 rfl]
      rw [← hs]
      unfold fixE
      split
      · exact down_above n (n - i) i _ (Nat.le_refl _) hin n (Nat.le_refl _)
      · rw [up_above i _ n hin]
        exact down_above n (n - i) i _ (Nat.le_refl _) hin n (Nat.le_refl _)
    · refine fix_heap hin (by omega) (fun k h hk hk0 hki hp => ?_) (fun k h hk hk0 hp hi0 => ?_)
      · rw [(sw_at (hi := hi) (hj := hn) k (by omega) h).2.2 hki (by omega), (sw_at (hi := hi) (hj := hn) ((k - 1) / 2) (by omega) (by omega)).2.2 hp (by omega)]
        exact hH k (by omega) (by omega) hk0
      · rw [(sw_at (hi := hi) (hj := hn) k (by omega) h).2.2 (by omega) (by omega), (sw_at (hi := hi) (hj := hn) ((i - 1) / 2) (by omega) (by omega)).2.2 (by omega) (by omega)]
        have c := hH k (by omega) (by omega) hk0
        have d := hH i hi hi hi0
        rw [get_eq hp _ hi] at c
        rw [less_not] at c d ⊢
        omega
/-- What Fix leaves behind one entry's turn. -/
theorem weigh_spec {es : List En} {i : Nat} (hi : i < es.length) (hH : HeapTo es es.length) (e : En) : (fixE (es.set i e) i es.length).Perm (es.set i e) ∧ HeapTo (fixE (es.set i e) i es.length) es.length := by
  refine ⟨fix_perm _ _ _, fix_heap hi (by simp) (fun k h hk hk0 hki hp => ?_) (fun k h hk hk0 hp hi0 => ?_)⟩
  · rw [List.getElem_set_ne (by omega), List.getElem_set_ne (by omega)]
    exact hH k hk hk hk0
  · rw [List.getElem_set_ne (by omega), List.getElem_set_ne (by omega)]
    have c := hH k hk hk hk0
    have d := hH i hi hi hi0
    rw [get_eq hp _ hi] at c
    rw [less_not] at c d ⊢
    omega
/-- What Push leaves. -/
theorem push_spec {es : List En} (hH : HeapTo es es.length) (e : En) : (upE (es ++ [e]) es.length).Perm (es ++ [e]) ∧ HeapTo (upE (es ++ [e]) es.length) (es.length + 1) := by
  refine ⟨up_perm _ _, up_heap _ es.length _ (by simp) (by omega) (by simp) (fun k h hk hk0 hki => ?_) (fun k h hk hk0 hp _ => by omega)⟩
  have hk' : k < es.length := by omega
  rw [List.getElem_append_left hk', List.getElem_append_left (by omega)]
  exact hH k hk' hk' hk0
end Go.Proofs.Ytchjdpmgocapjaa.S

namespace Go.Proofs.Ytchjdpmgocapjaa.S

/-- A thing: itself, its weight, its ticket. -/
structure Th where
  x : ByteArray
  wt : Int
  tk : Int
def tri (e : En) : Th := ⟨e.x, e.wt, e.tk⟩
def lessT (a b : Th) : Prop := a.wt < b.wt ∨ (a.wt = b.wt ∧ a.tk < b.tk)
/-- By rising tickets. -/
def Rise (L : List Th) : Prop := L.Pairwise fun a b => a.tk < b.tk
/-- The place of the first that weighs least. -/
def IsNx (L : List Th) (a : Nat) : Prop := ∃ h : a < L.length, (∀ j (hj : j < L.length), L[a].wt ≤ L[j].wt) ∧ ∀ j (hj : j < a), L[a].wt < (L[j]'(by omega)).wt
def nxI : List Th → Nat
  | [] => 0
  | t :: r => if h : nxI r < r.length then (if (r[nxI r]).wt < t.wt then nxI r + 1 else 0) else 0
theorem nx_is : ∀ (L : List Th), L ≠ [] → IsNx L (nxI L)
  | [], h => absurd rfl h
  | t :: r, _ => by
    by_cases hr : r = []
    · subst hr
      refine ⟨by simp [nxI], fun j hj => ?_, fun j hj => absurd hj (by simp [nxI])⟩
      simp at hj
      subst hj
      simp [nxI]
    · obtain ⟨h1, h2, h3⟩ := nx_is r hr
      unfold nxI
      rw [dif_pos h1]
      split
      · rename_i hw
        refine ⟨by simpa using h1, fun j hj => ?_, fun j hj => ?_⟩
        · cases j with
          | zero => simpa using Int.le_of_lt hw
          | succ j => simpa using h2 j (by simpa using hj)
        · cases j with
          | zero => simpa using hw
          | succ j => simpa using h3 j (by omega)
      · rename_i hw
        refine ⟨by simp, fun j hj => ?_, fun j hj => absurd hj (Nat.not_lt_zero _)⟩
        cases j with
        | zero => simp
        | succ j =>
          have := h2 j (by simpa using hj)
          simp only [List.getElem_cons_zero, List.getElem_cons_succ]
          omega
theorem nx_one {L : List Th} {a b : Nat} (ha : IsNx L a) (hb : IsNx L b) : a = b := by
  obtain ⟨a1, a2, a3⟩ := ha
  obtain ⟨b1, b2, b3⟩ := hb
  rcases Nat.lt_trichotomy a b with h | h | h
  · have := b3 a h; have := a2 b b1; omega
  · exact h
  · have := a3 b h; have := b2 a a1; omega
theorem nx_lt {L : List Th} (h : L ≠ []) : nxI L < L.length := (nx_is L h).1
theorem nx_less {L : List Th} (hR : Rise L) {a : Nat} (ha : IsNx L a) (j : Nat) (hj : j < L.length) (hne : j ≠ a) : lessT (L[a]'ha.1) L[j] := by
  obtain ⟨a1, a2, a3⟩ := ha
  unfold lessT
  rcases Nat.lt_or_ge j a with h | h
  · exact .inl (a3 j h)
  · have h1 := a2 j hj
    have h2 := (List.pairwise_iff_getElem.1 hR) a j a1 hj (by omega)
    omega
/-- The queue holds just these things, the heap's order among them. -/
structure Ab (es : List En) (L : List Th) (last : Int) : Prop where
  heap : HeapTo es es.length
  perm : (es.map tri).Perm L
  rise : Rise L
  tks : ∀ t ∈ L, 1 ≤ t.tk ∧ t.tk ≤ last
theorem Ab.len {es : List En} {L : List Th} {last : Int} (h : Ab es L last) : es.length = L.length := by
  have := h.perm.length_eq
  simpa using this
theorem rise_inj {L : List Th} (h : Rise L) {a b : Th} (ha : a ∈ L) (hb : b ∈ L) (he : a.tk = b.tk) : a = b := by
  obtain ⟨i, hi, rfl⟩ := List.getElem_of_mem ha
  obtain ⟨j, hj, rfl⟩ := List.getElem_of_mem hb
  rcases Nat.lt_trichotomy i j with hl | hl | hl
  · have := List.pairwise_iff_getElem.1 h i j hi hj hl; omega
  · subst hl; rfl
  · have := List.pairwise_iff_getElem.1 h j i hj hi hl; omega
theorem Ab.mem {es : List En} {L : List Th} {last : Int} (h : Ab es L last) (i : Nat) (hi : i < es.length) : tri es[i] ∈ L := h.perm.subset (List.mem_map.2 ⟨_, List.getElem_mem hi, rfl⟩)
theorem Ab.tk_inj {es : List En} {L : List Th} {last : Int} (h : Ab es L last) {i j : Nat} (hi : i < es.length) (hj : j < es.length) (he : es[i].tk = es[j].tk) : i = j := by
  have hnd : ((es.map tri).map Th.tk).Nodup := by
    refine ((h.perm.map Th.tk).nodup_iff).2 ?_
    refine List.pairwise_map.2 (h.rise.imp ?_)
    intro a b hab; omega
  have hp := List.pairwise_iff_getElem.1 hnd
  rcases Nat.lt_trichotomy i j with hl | hl | hl
  · refine absurd ?_ (hp i j (by simpa using hi) (by simpa using hj) hl)
    simpa [tri] using he
  · exact hl
  · refine absurd ?_ (hp j i (by simpa using hj) (by simpa using hi) hl)
    simpa [tri] using he.symm
/-- What lies above all is the next. -/
theorem Ab.first {es : List En} {L : List Th} {last : Int} (h : Ab es L last) (h0 : 0 < es.length) : ∃ hn : nxI L < L.length, tri es[0] = L[nxI L] := by
  have hne : L ≠ [] := fun e => by have := h.len; rw [e] at this; simp only [List.length_nil] at this; omega
  have hnx := nx_is L hne
  refine ⟨hnx.1, ?_⟩
  obtain ⟨j, hj, ej⟩ := List.getElem_of_mem (h.mem 0 h0)
  by_cases hjn : j = nxI L
  · subst hjn; exact ej.symm
  · have h1 := nx_less h.rise hnx j hj hjn
    rw [ej] at h1
    obtain ⟨k, hk, ek⟩ := List.getElem_of_mem (h.perm.symm.subset (List.getElem_mem hnx.1))
    have h2 := heap_least h.heap k (by simpa using hk) (by simpa using hk)
    rw [less_not] at h2
    rw [← ek] at h1
    simp only [List.getElem_map, tri, lessT] at h1
    omega
/-- There is a place for each ticket. -/
theorem Ab.has {es : List En} {L : List Th} {last : Int} (h : Ab es L last) (t : Int) : (∃ i, ∃ hi : i < es.length, es[i].tk = t) ↔ ∃ a ∈ L, a.tk = t := by
  constructor
  · rintro ⟨i, hi, e⟩
    exact ⟨_, h.mem i hi, e⟩
  · rintro ⟨a, ha, e⟩
    obtain ⟨k, hk, ek⟩ := List.getElem_of_mem (h.perm.symm.subset ha)
    refine ⟨k, by simpa using hk, ?_⟩
    rw [← e, ← ek]
    simp [tri]
def hasT (L : List Th) (t : Int) : Bool := L.any fun a => decide (a.tk = t)
theorem hasT_iff {L : List Th} {t : Int} : hasT L t = true ↔ ∃ a ∈ L, a.tk = t := by simp [hasT]
/-- Without the thing of a ticket. -/
def dropT (L : List Th) (t : Int) : List Th := L.filter fun a => decide (a.tk ≠ t)
def weighT (L : List Th) (t w : Int) : List Th := L.map fun a => if a.tk = t then { a with wt := w } else a
theorem drop_none {L : List Th} {t : Int} (h : hasT L t = false) : dropT L t = L := by
  unfold dropT
  rw [List.filter_eq_self]
  intro a ha
  rw [decide_eq_true_iff]
  intro e
  have : hasT L t = true := hasT_iff.2 ⟨a, ha, e⟩
  rw [h] at this; cases this
theorem weigh_none {L : List Th} {t w : Int} (h : hasT L t = false) : weighT L t w = L := by
  unfold weighT
  conv => rhs; rw [← List.map_id L]
  refine List.map_congr_left ?_
  intro a ha
  rw [if_neg]
  · rfl
  · intro e
    have : hasT L t = true := hasT_iff.2 ⟨a, ha, e⟩
    rw [h] at this; cases this
theorem rise_drop {L : List Th} (h : Rise L) (t : Int) : Rise (dropT L t) := List.Pairwise.filter _ h
theorem rise_weigh {L : List Th} (h : Rise L) (t w : Int) : Rise (weighT L t w) := by
  unfold weighT Rise
  refine List.pairwise_map.2 (h.imp ?_)
  intro a b hab
  split <;> split <;> exact hab
theorem Ab.push {es : List En} {L : List Th} {last : Int} (h : Ab es L last) (e : En) (he : e.tk = last + 1) (h0 : 0 ≤ last) : Ab (upE (es ++ [e]) es.length) (L ++ [tri e]) (last + 1) := by
  obtain ⟨p1, p2⟩ := push_spec h.heap e
  refine ⟨by rw [p1.length_eq]; simpa using p2, ?_, ?_, fun t ht => ?_⟩
  · refine (p1.map tri).trans ?_
    rw [List.map_append]
    exact h.perm.append_right _
  · refine List.pairwise_append.2 ⟨h.rise, List.pairwise_singleton _ _, fun a ha b hb => ?_⟩
    simp at hb
    subst hb
    have := (h.tks a ha).2
    show a.tk < e.tk
    omega
  · rcases List.mem_append.1 ht with h1 | h1
    · have := h.tks t h1; omega
    · simp at h1
      subst h1
      show 1 ≤ e.tk ∧ e.tk ≤ last + 1
      omega
theorem Ab.drop {es : List En} {L : List Th} {last : Int} (h : Ab es L last) {i n : Nat} (hi : i < es.length) (hl : es.length = n + 1) : Ab (outE es i n hi (by omega)).dropLast (dropT L es[i].tk) last := by
  obtain ⟨p1, p2, p3⟩ := out_spec hi hl h.heap
  refine ⟨by rw [p3]; exact p2, ?_, rise_drop h.rise _, fun t ht => h.tks t (List.mem_filter.1 ht).1⟩
  refine (p1.map tri).trans ?_
  have e1 : ((es[i] :: es.eraseIdx i).map tri).Perm L := ((erase_perm es i hi).map tri).trans h.perm
  have e2 := e1.filter (fun a => decide (a.tk ≠ es[i].tk))
  have e3 : ((es[i] :: es.eraseIdx i).map tri).filter (fun a => decide (a.tk ≠ es[i].tk)) = (es.eraseIdx i).map tri := by
    rw [List.map_cons, List.filter_cons_of_neg (by simp [tri]), List.filter_eq_self]
    intro a ha
    obtain ⟨e, he, rfl⟩ := List.mem_map.1 ha
    obtain ⟨k, hk, rfl⟩ := List.getElem_of_mem he
    rw [decide_eq_true_iff]
    intro ee
    rw [List.getElem_eraseIdx] at ee
    rw [List.length_eraseIdx, if_pos hi] at hk
    split at ee
    · have := h.tk_inj (by omega) hi ee; omega
    · have := h.tk_inj (by omega) hi ee; omega
  rw [e3] at e2
  exact e2
theorem Ab.weigh {es : List En} {L : List Th} {last : Int} (h : Ab es L last) {i : Nat} (hi : i < es.length) (w : Int) : Ab (fixE (es.set i { es[i] with wt := w }) i es.length) (weighT L es[i].tk w) last := by
  obtain ⟨p1, p2⟩ := weigh_spec hi h.heap { es[i] with wt := w }
  refine ⟨by rw [p1.length_eq]; simpa using p2, ?_, rise_weigh h.rise _ _, fun t ht => ?_⟩
  · refine (p1.map tri).trans ?_
    have e1 := h.perm.map (fun a : Th => if a.tk = es[i].tk then { a with wt := w } else a)
    have e2 : (es.map tri).map (fun a : Th => if a.tk = es[i].tk then { a with wt := w } else a) = (es.set i { es[i] with wt := w }).map tri := by
      refine List.ext_getElem (by simp) (fun k h1 h2 => ?_)
      simp only [List.getElem_map]
      have hk : k < es.length := by simpa using h1
      rw [List.getElem_set]
      by_cases hik : i = k
      · subst hik
        rw [if_pos rfl]
        simp [tri]
      · rw [if_neg hik, if_neg]
        intro e
        exact hik (h.tk_inj hk hi e).symm
    rw [e2] at e1
    exact e1
  · obtain ⟨a, ha, rfl⟩ := List.mem_map.1 ht
    split
    · exact h.tks a ha
    · exact h.tks a ha
theorem ab_none : Ab [] [] 0 := ⟨fun k h => absurd h (Nat.not_lt_zero _), List.Perm.refl _, List.Pairwise.nil, fun t ht => absurd ht (by simp)⟩
/-- Without the next. -/
theorem drop_nx {L : List Th} (hR : Rise L) (hn : nxI L < L.length) : dropT L L[nxI L].tk = L.eraseIdx (nxI L) := by
  unfold dropT
  generalize nxI L = k at hn
  induction L generalizing k with
  | nil => simp at hn
  | cons a r ih =>
    have hr := (List.pairwise_cons.1 hR)
    cases k with
    | zero =>
      rw [List.filter_cons_of_neg (by simp), List.eraseIdx_cons_zero, List.filter_eq_self]
      intro b hb
      have := hr.1 b hb
      simp
      omega
    | succ k =>
      have hk : k < r.length := by simpa using hn
      have := hr.1 r[k] (List.getElem_mem hk)
      simp only [List.getElem_cons_succ]
      rw [List.filter_cons_of_pos (by simp; omega), List.eraseIdx_cons_succ, ih hr.2 k hk]
end Go.Proofs.Ytchjdpmgocapjaa.S

namespace Go.Proofs.Ytchjdpmgocapjaa.S

theorem nx_cond {L : List Th} : nxI L < L.length ↔ L ≠ [] := ⟨fun h e => by subst e; simp at h, nx_lt⟩
/-- All things as they come out. -/
def allN : Nat → List Th → List Th
  | 0, _ => []
  | n + 1, L => if h : nxI L < L.length then L[nxI L] :: allN n (L.eraseIdx (nxI L)) else []
def allL (L : List Th) : List Th := allN L.length L
theorem rise_erase {L : List Th} (h : Rise L) (k : Nat) : Rise (L.eraseIdx k) := List.Pairwise.sublist (List.eraseIdx_sublist _ _) h
theorem eraseT_perm : ∀ (L : List Th) (i : Nat) (hi : i < L.length), (L[i] :: L.eraseIdx i).Perm L
  | e :: r, 0, _ => List.Perm.refl _
  | e :: r, i + 1, hi => by
    have h := eraseT_perm r i (by simpa using hi)
    simp only [List.getElem_cons_succ, List.eraseIdx_cons_succ]
    exact (List.Perm.swap _ _ _).trans (h.cons e)
theorem lessT_trans {a b c : Th} (h1 : lessT a b) (h2 : lessT b c) : lessT a c := by unfold lessT at *; omega
theorem nx_ahead {L : List Th} (hR : Rise L) (hn : nxI L < L.length) : ∀ b ∈ L.eraseIdx (nxI L), lessT L[nxI L] b := fun b hb => by
  have hnx := nx_is L (nx_cond.1 hn)
  obtain ⟨k, hk, rfl⟩ := List.getElem_of_mem hb
  rw [List.length_eraseIdx, if_pos hn] at hk
  rw [List.getElem_eraseIdx]
  split
  · exact nx_less hR hnx k _ (by omega)
  · exact nx_less hR hnx (k + 1) _ (by omega)
theorem all_spec : ∀ (n : Nat) (L : List Th), L.length = n → Rise L → (allN n L).Perm L ∧ (allN n L).Pairwise lessT
  | 0, L, h, _ => by
    have : L = [] := List.length_eq_zero_iff.1 h
    subst this
    exact ⟨List.Perm.refl _, List.Pairwise.nil⟩
  | n + 1, L, h, hR => by
    have hn : nxI L < L.length := nx_lt (fun e => by rw [e] at h; simp at h)
    obtain ⟨p, s⟩ := all_spec n (L.eraseIdx (nxI L)) (by rw [List.length_eraseIdx, if_pos hn]; omega) (rise_erase hR _)
    unfold allN
    rw [dif_pos hn]
    refine ⟨(p.cons _).trans (eraseT_perm L _ hn), List.pairwise_cons.2 ⟨fun b hb => ?_, s⟩⟩
    exact nx_ahead hR hn b (p.subset hb)
theorem sorted_one {A B : List Th} (ha : A.Pairwise lessT) (hb : B.Pairwise lessT) (h : A.Perm B) : A = B := by
  refine List.Perm.eq_of_pairwise (le := lessT) ?_ ha hb h
  intro a b _ _ h1 h2
  unfold lessT at h1 h2
  omega
theorem all_one {L : List Th} (hR : Rise L) {A : List Th} (ha : A.Pairwise lessT) (h : A.Perm L) : A = allL L := by
  obtain ⟨p, s⟩ := all_spec L.length L rfl hR
  exact sorted_one ha s (h.trans p.symm)
theorem all_step {L : List Th} (hn : nxI L < L.length) : allL L = L[nxI L] :: allL (L.eraseIdx (nxI L)) := by
  unfold allL
  rw [show (L.eraseIdx (nxI L)).length = L.length - 1 by rw [List.length_eraseIdx, if_pos hn]]
  obtain ⟨m, hm⟩ : ∃ m, L.length = m + 1 := ⟨L.length - 1, by omega⟩
  rw [hm]
  have e : allN (m + 1) L = L[nxI L] :: allN m (L.eraseIdx (nxI L)) := by
    rw [allN, dif_pos hn]
  rw [e]
  simp
theorem all_len (L : List Th) (hR : Rise L) : (allL L).length = L.length := (all_spec L.length L rfl hR).1.length_eq
end Go.Proofs.Ytchjdpmgocapjaa.S
