/- A heap, plainly: up, down and Fix make one; what lies above all is the least. -/
import Derived.Test.YtchjdpmgocapjaaAgI
namespace Go.Proofs.Ytchjdpmgocapjaa

theorem less_iff (e f : En) : lessE e f = true ↔ e.wt < f.wt ∨ (e.wt = f.wt ∧ e.tk < f.tk) := by
  unfold lessE ordI orI cmpI
  rw [decide_eq_true_iff]
  split <;> split at * <;> (try split at *) <;> (try split) <;> (try split) <;> omega
theorem less_not (e f : En) : lessE e f = false ↔ f.wt < e.wt ∨ (e.wt = f.wt ∧ f.tk ≤ e.tk) := by
  rw [← Bool.not_eq_true, less_iff]
  omega
/-- Among the first n none comes ahead of what lies above it. -/
def HeapTo (es : List En) (n : Nat) : Prop := ∀ k (h : k < es.length), k < n → 0 < k → lessE es[k] (es[(k - 1) / 2]'(by omega)) = false
theorem get_eq {es : List En} {i j : Nat} (h : i = j) (hi : i < es.length) (hj : j < es.length) : es[i] = es[j] := by subst h; rfl
theorem sw_at {es : List En} {i j : Nat} {hi : i < es.length} {hj : j < es.length} (k : Nat) (hk : k < es.length) (hk' : k < (swE es i j hi hj).length) : (k = j → (swE es i j hi hj)[k] = es[i]) ∧ (k = i → (swE es i j hi hj)[k] = es[j]) ∧ (k ≠ i → k ≠ j → (swE es i j hi hj)[k] = es[k]) := by
  rw [swE_at]
  refine ⟨fun h => by rw [if_pos h], fun h => ?_, fun h1 h2 => by rw [if_neg h2, if_neg h1]⟩
  by_cases h2 : k = j
  · rw [if_pos h2]; exact get_eq (h.symm.trans h2) hi hj
  · rw [if_neg h2, if_pos h]
theorem up_heap (n : Nat) : ∀ (j : Nat) (es : List En) (hj : j < es.length), j < n → n ≤ es.length →
    (∀ k (h : k < es.length), k < n → 0 < k → k ≠ j → lessE es[k] (es[(k - 1) / 2]'(by omega)) = false) →
    (∀ k (h : k < es.length), k < n → 0 < k → (k - 1) / 2 = j → 0 < j → lessE es[k] (es[(j - 1) / 2]'(by omega)) = false) → HeapTo (upE es j) n := by
  intro j
  induction j using Nat.strongRecOn with
  | _ j ih =>
    intro es hj hjn hnl h1 h2
    by_cases h0 : j = 0
    · subst h0
      have e : upE es 0 = es := by rw [upE_eq]; simp
      rw [e]
      exact fun k h hk hk0 => h1 k h hk hk0 (by omega)
    · obtain ⟨i, hi⟩ : ∃ i, (j - 1) / 2 = i := ⟨_, rfl⟩
      have hil : i < es.length := by omega
      cases hb : lessE es[j] es[i] with
      | false =>
        rw [up_stop (by omega) hj hi hil hb]
        intro k h hk hk0
        by_cases hkj : k = j
        · subst hkj
          rw [get_eq hi _ hil]
          exact hb
        · exact h1 k h hk hk0 hkj
      | true =>
        rw [up_step (by omega) hj hi hil hb]
        have hlen := swE_len es i j hil hj
        have bt := (less_iff _ _).1 hb
        refine ih i (by omega) _ (by omega) (by omega) (by omega) (fun k h hk hk0 hki => ?_) (fun k h hk hk0 hkp hi0 => ?_)
        · have hk' : k < es.length := by omega
          have hp' : (k - 1) / 2 < es.length := by omega
          have a1 := sw_at (hi := hil) (hj := hj) k hk' h
          have a2 := sw_at (hi := hil) (hj := hj) ((k - 1) / 2) hp' (by omega)
          by_cases hkj : k = j
          · rw [a1.1 hkj, a2.2.1 (by omega), less_not]
            omega
          · rw [a1.2.2 hki hkj]
            by_cases hpi : (k - 1) / 2 = i
            · rw [a2.2.1 hpi, less_not]
              have c := h1 k hk' hk hk0 hkj
              rw [get_eq hpi hp' hil, less_not] at c
              omega
            · by_cases hpj : (k - 1) / 2 = j
              · rw [a2.1 hpj]
                have c := h2 k hk' hk hk0 hpj (by omega)
                rw [get_eq hi _ hil] at c
                exact c
              · rw [a2.2.2 hpi hpj]
                exact h1 k hk' hk hk0 hkj
        · have hk' : k < es.length := by omega
          have hp' : (i - 1) / 2 < es.length := by omega
          have a1 := sw_at (hi := hil) (hj := hj) k hk' h
          have a2 := sw_at (hi := hil) (hj := hj) ((i - 1) / 2) hp' (by omega)
          rw [a2.2.2 (by omega) (by omega)]
          have ci := h1 i hil (by omega) hi0 (by omega)
          by_cases hkj : k = j
          · rw [a1.1 hkj]
            exact ci
          · rw [a1.2.2 (by omega) hkj, less_not]
            have c := h1 k hk' hk hk0 hkj
            rw [get_eq hkp _ hil, less_not] at c
            rw [less_not] at ci
            omega
theorem kid_least {es : List En} {i n : Nat} (hn : n ≤ es.length) (h1 : 2 * i + 1 < n) (k : Nat) (hk : k < n) (hk0 : 0 < k) (hp : (k - 1) / 2 = i) : lessE (es[k]'(by omega)) (es[kidE es i n hn h1]'(by have := kid_lt hn h1; omega)) = false ∧ (kidE es i n hn h1 - 1) / 2 = i ∧ 0 < kidE es i n hn h1 := by
  have hir : ∀ e : En, lessE e e = false := fun e => by rw [less_not]; omega
  have hk2 : k = 2 * i + 1 ∨ k = 2 * i + 2 := by omega
  unfold kidE
  split
  · rename_i h2
    split
    · rename_i hb
      have bt := (less_iff _ _).1 hb
      refine ⟨?_, by omega, by omega⟩
      rcases hk2 with h | h
      · subst h; rw [less_not]; omega
      · subst h; exact hir _
    · rename_i hb
      rw [Bool.not_eq_true] at hb
      refine ⟨?_, by omega, by omega⟩
      rcases hk2 with h | h
      · subst h; exact hir _
      · subst h; exact hb
  · refine ⟨?_, by omega, by omega⟩
    rcases hk2 with h | h
    · subst h; exact hir _
    · omega
theorem down_heap (n : Nat) : ∀ (d i : Nat) (es : List En), n - i ≤ d → (hi : i < n) → (hn : n ≤ es.length) →
    (∀ k (h : k < es.length), k < n → 0 < k → k ≠ i → (k - 1) / 2 ≠ i → lessE es[k] (es[(k - 1) / 2]'(by omega)) = false) →
    (∀ k (h : k < es.length), k < n → 0 < k → (k - 1) / 2 = i → 0 < i → lessE es[k] (es[(i - 1) / 2]'(by omega)) = false) →
    ((downE es i n).2 = i → (downE es i n).1 = es ∧ ∀ k (h : k < es.length), k < n → 0 < k → (k - 1) / 2 = i → lessE es[k] (es[(k - 1) / 2]'(by omega)) = false) ∧
    (i < (downE es i n).2 → HeapTo (downE es i n).1 n) := by
  intro d
  induction d with
  | zero => intro i es hd hi; omega
  | succ d ih =>
    intro i es hd hi hn h1 h2
    by_cases hkid : 2 * i + 1 < n
    · obtain ⟨j, hj⟩ : ∃ j, kidE es i n hn hkid = j := ⟨_, rfl⟩
      have hlt := kid_lt hn hkid
      rw [hj] at hlt
      have hil : i < es.length := by omega
      have hjl : j < es.length := by omega
      have least : ∀ k (h : k < es.length), k < n → 0 < k → (k - 1) / 2 = i → lessE es[k] es[j] = false := fun k h hk hk0 hp => by
        have := (kid_least hn hkid k hk hk0 hp).1
        rw [get_eq hj _ hjl] at this
        exact this
      have hjp := (kid_least hn hkid (2 * i + 1) hkid (by omega) (by omega)).2
      rw [hj] at hjp
      cases hb : lessE es[j] es[i] with
      | false =>
        rw [down_stop hn hkid hj hil hjl hb]
        refine ⟨fun _ => ⟨rfl, fun k h hk hk0 hp => ?_⟩, fun h => absurd h (Nat.lt_irrefl _)⟩
        rw [get_eq hp _ hil]
        have c := least k h hk hk0 hp
        rw [less_not] at c hb ⊢
        omega
      | true =>
        rw [down_step hn hkid hj hil hjl hb]
        have hlen := swE_len es i j hil hjl
        have bt := (less_iff _ _).1 hb
        have hk := down_keeps n (n - j) j (swE es i j hil hjl) (Nat.le_refl _)
        have ok : ∀ k (h : k < (swE es i j hil hjl).length), k < n → 0 < k → (k - 1) / 2 ≠ j → lessE (swE es i j hil hjl)[k] ((swE es i j hil hjl)[(k - 1) / 2]'(by omega)) = false := fun k h hk hk0 hpj => by
          have hk' : k < es.length := by omega
          have hp' : (k - 1) / 2 < es.length := by omega
          have a1 := sw_at (hi := hil) (hj := hjl) k hk' h
          have a2 := sw_at (hi := hil) (hj := hjl) ((k - 1) / 2) hp' (by omega)
          by_cases hki : k = i
          · subst hki
            rw [a1.2.1 rfl, a2.2.2 (by omega) (by omega)]
            exact h2 j hjl (by omega) (by omega) hjp.1 hk0
          · by_cases hpi : (k - 1) / 2 = i
            · rw [a2.2.1 hpi]
              by_cases hkj : k = j
              · rw [a1.1 hkj, less_not]; omega
              · rw [a1.2.2 hki hkj]
                exact least k hk' hk hk0 hpi
            · by_cases hkj : k = j
              · omega
              · rw [a1.2.2 hki hkj, a2.2.2 hpi hpj]
                exact h1 k hk' hk hk0 hki hpi
        obtain ⟨g1, g2⟩ := ih j (swE es i j hil hjl) (by omega) (by omega) (by omega) (fun k h hk hk0 _ hpj => ok k h hk hk0 hpj) (fun k h hk hk0 hkp hj0 => by
          have hk' : k < es.length := by omega
          have a1 := sw_at (hi := hil) (hj := hjl) k hk' h
          have a2 := sw_at (hi := hil) (hj := hjl) ((j - 1) / 2) (by omega) (by omega)
          rw [a1.2.2 (by omega) (by omega), a2.2.1 hjp.1]
          have c := h1 k hk' hk hk0 (by omega) (by omega)
          rw [get_eq hkp _ hjl] at c
          exact c)
        refine ⟨fun h => by omega, fun _ => ?_⟩
        by_cases hmove : (downE (swE es i j hil hjl) j n).2 = j
        · obtain ⟨e, g3⟩ := g1 hmove
          rw [e]
          intro k h hk hk0
          by_cases hpj : (k - 1) / 2 = j
          · exact g3 k h hk hk0 hpj
          · exact ok k h hk hk0 hpj
        · exact g2 (by omega)
    · rw [down_end hkid]
      exact ⟨fun _ => ⟨rfl, fun k h hk hk0 hp => by omega⟩, fun h => absurd h (Nat.lt_irrefl _)⟩
/-- One entry stands at any place; all else is a heap: Fix makes a heap of it. -/
theorem fix_heap {es : List En} {i n : Nat} (hi : i < n) (hn : n ≤ es.length)
    (h1 : ∀ k (h : k < es.length), k < n → 0 < k → k ≠ i → (k - 1) / 2 ≠ i → lessE es[k] (es[(k - 1) / 2]'(by omega)) = false)
    (h2 : ∀ k (h : k < es.length), k < n → 0 < k → (k - 1) / 2 = i → 0 < i → lessE es[k] (es[(i - 1) / 2]'(by omega)) = false) : HeapTo (fixE es i n) n := by
  obtain ⟨g1, g2⟩ := down_heap n (n - i) i es (Nat.le_refl _) hi hn h1 h2
  have hk := (down_keeps n (n - i) i es (Nat.le_refl _)).2.1
  unfold fixE
  split
  · rename_i h
    exact g2 h
  · rename_i h
    obtain ⟨e, g3⟩ := g1 (by omega)
    rw [e]
    refine up_heap n i es (by omega) hi hn (fun k h hk hk0 hki => ?_) h2
    by_cases hp : (k - 1) / 2 = i
    · exact g3 k h hk hk0 hp
    · exact h1 k h hk hk0 hki hp
/-- What lies above all comes ahead of all. -/
theorem heap_least {es : List En} {n : Nat} (h : HeapTo es n) : ∀ (k : Nat) (hk : k < es.length), k < n → lessE es[k] (es[0]'(by omega)) = false := by
  intro k
  induction k using Nat.strongRecOn with
  | _ k ih =>
    intro hk hkn
    by_cases h0 : k = 0
    · subst h0
      rw [less_not]
      omega
    · have c := h k hk hkn (by omega)
      have d := ih ((k - 1) / 2) (by omega) (by omega) (by omega)
      rw [less_not] at c d ⊢
      omega
end Go.Proofs.Ytchjdpmgocapjaa
