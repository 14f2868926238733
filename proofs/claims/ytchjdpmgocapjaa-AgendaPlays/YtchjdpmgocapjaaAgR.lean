/- An agenda, plainly: its things by rising tickets, the next of them. -/
import Derived.Test.YtchjdpmgocapjaaAgQ
namespace Go.Proofs.Ytchjdpmgocapjaa

/-- A thing: itself, its weight, its ticket. -/
structure Th where
  x : Int
  wt : Int
  tk : Int
def tri (e : En) : Th := ⟨e.x, e.wt, e.tk⟩
def lessT (a b : Th) : Prop := a.wt < b.wt ∨ (a.wt = b.wt ∧ a.tk < b.tk)
/-- By rising tickets. -/
def Rise (L : List Th) : Prop := L.Pairwise fun a b => a.tk < b.tk
/-- The place of the first that weighs least. -/
def IsNx (L : List Th) (a : Nat) : Prop := ∃ h : a < L.length, (∀ j (hj : j < L.length), L[a].wt ≤ L[j].wt) ∧ ∀ j (hj : j < a), L[a].wt < (L[j]'(by omega)).wt
def nxI : List Th → Nat
  | [] => 0
  | t :: r => if h : nxI r < r.length then (if (r[nxI r]).wt < t.wt then nxI r + 1 else 0) else 0
theorem nx_is : ∀ (L : List Th), L ≠ [] → IsNx L (nxI L)
  | [], h => absurd rfl h
  | t :: r, _ => by
    by_cases hr : r = []
    · subst hr
      refine ⟨by simp [nxI], fun j hj => ?_, fun j hj => absurd hj (by simp [nxI])⟩
      simp at hj
      subst hj
      simp [nxI]
    · obtain ⟨h1, h2, h3⟩ := nx_is r hr
      unfold nxI
      rw [dif_pos h1]
      split
      · rename_i hw
        refine ⟨by simpa using h1, fun j hj => ?_, fun j hj => ?_⟩
        · cases j with
          | zero => simpa using Int.le_of_lt hw
          | succ j => simpa using h2 j (by simpa using hj)
        · cases j with
          | zero => simpa using hw
          | succ j => simpa using h3 j (by omega)
      · rename_i hw
        refine ⟨by simp, fun j hj => ?_, fun j hj => absurd hj (Nat.not_lt_zero _)⟩
        cases j with
        | zero => simp
        | succ j =>
          have := h2 j (by simpa using hj)
          simp only [List.getElem_cons_zero, List.getElem_cons_succ]
          omega
theorem nx_one {L : List Th} {a b : Nat} (ha : IsNx L a) (hb : IsNx L b) : a = b := by
  obtain ⟨a1, a2, a3⟩ := ha
  obtain ⟨b1, b2, b3⟩ := hb
  rcases Nat.lt_trichotomy a b with h | h | h
  · have := b3 a h; have := a2 b b1; omega
  · exact h
  · have := a3 b h; have := b2 a a1; omega
theorem nx_lt {L : List Th} (h : L ≠ []) : nxI L < L.length := (nx_is L h).1
theorem nx_less {L : List Th} (hR : Rise L) {a : Nat} (ha : IsNx L a) (j : Nat) (hj : j < L.length) (hne : j ≠ a) : lessT (L[a]'ha.1) L[j] := by
  obtain ⟨a1, a2, a3⟩ := ha
  unfold lessT
  rcases Nat.lt_or_ge j a with h | h
  · exact .inl (a3 j h)
  · have h1 := a2 j hj
    have h2 := (List.pairwise_iff_getElem.1 hR) a j a1 hj (by omega)
    omega
/-- The queue holds just these things, the heap's order among them. -/
structure Ab (es : List En) (L : List Th) (last : Int) : Prop where
  heap : HeapTo es es.length
  perm : (es.map tri).Perm L
  rise : Rise L
  tks : ∀ t ∈ L, 1 ≤ t.tk ∧ t.tk ≤ last
theorem Ab.len {es : List En} {L : List Th} {last : Int} (h : Ab es L last) : es.length = L.length := by
  have := h.perm.length_eq
  simpa using this
theorem rise_inj {L : List Th} (h : Rise L) {a b : Th} (ha : a ∈ L) (hb : b ∈ L) (he : a.tk = b.tk) : a = b := by
  obtain ⟨i, hi, rfl⟩ := List.getElem_of_mem ha
  obtain ⟨j, hj, rfl⟩ := List.getElem_of_mem hb
  rcases Nat.lt_trichotomy i j with hl | hl | hl
  · have := List.pairwise_iff_getElem.1 h i j hi hj hl; omega
  · subst hl; rfl
  · have := List.pairwise_iff_getElem.1 h j i hj hi hl; omega
theorem Ab.mem {es : List En} {L : List Th} {last : Int} (h : Ab es L last) (i : Nat) (hi : i < es.length) : tri es[i] ∈ L := h.perm.subset (List.mem_map.2 ⟨_, List.getElem_mem hi, rfl⟩)
theorem Ab.tk_inj {es : List En} {L : List Th} {last : Int} (h : Ab es L last) {i j : Nat} (hi : i < es.length) (hj : j < es.length) (he : es[i].tk = es[j].tk) : i = j := by
  have hnd : ((es.map tri).map Th.tk).Nodup := by
    refine ((h.perm.map Th.tk).nodup_iff).2 ?_
    refine List.pairwise_map.2 (h.rise.imp ?_)
    intro a b hab; omega
  have hp := List.pairwise_iff_getElem.1 hnd
  rcases Nat.lt_trichotomy i j with hl | hl | hl
  · refine absurd ?_ (hp i j (by simpa using hi) (by simpa using hj) hl)
    simpa [tri] using he
  · exact hl
  · refine absurd ?_ (hp j i (by simpa using hj) (by simpa using hi) hl)
    simpa [tri] using he.symm
/-- What lies above all is the next. -/
theorem Ab.first {es : List En} {L : List Th} {last : Int} (h : Ab es L last) (h0 : 0 < es.length) : ∃ hn : nxI L < L.length, tri es[0] = L[nxI L] := by
  have hne : L ≠ [] := fun e => by have := h.len; rw [e] at this; simp only [List.length_nil] at this; omega
  have hnx := nx_is L hne
  refine ⟨hnx.1, ?_⟩
  obtain ⟨j, hj, ej⟩ := List.getElem_of_mem (h.mem 0 h0)
  by_cases hjn : j = nxI L
  · subst hjn; exact ej.symm
  · have h1 := nx_less h.rise hnx j hj hjn
    rw [ej] at h1
    obtain ⟨k, hk, ek⟩ := List.getElem_of_mem (h.perm.symm.subset (List.getElem_mem hnx.1))
    have h2 := heap_least h.heap k (by simpa using hk) (by simpa using hk)
    rw [less_not] at h2
    rw [← ek] at h1
    simp only [List.getElem_map, tri, lessT] at h1
    omega
/-- There is a place for each ticket. -/
theorem Ab.has {es : List En} {L : List Th} {last : Int} (h : Ab es L last) (t : Int) : (∃ i, ∃ hi : i < es.length, es[i].tk = t) ↔ ∃ a ∈ L, a.tk = t := by
  constructor
  · rintro ⟨i, hi, e⟩
    exact ⟨_, h.mem i hi, e⟩
  · rintro ⟨a, ha, e⟩
    obtain ⟨k, hk, ek⟩ := List.getElem_of_mem (h.perm.symm.subset ha)
    refine ⟨k, by simpa using hk, ?_⟩
    rw [← e, ← ek]
    simp [tri]
def hasT (L : List Th) (t : Int) : Bool := L.any fun a => decide (a.tk = t)
theorem hasT_iff {L : List Th} {t : Int} : hasT L t = true ↔ ∃ a ∈ L, a.tk = t := by simp [hasT]
/-- Without the thing of a ticket. -/
def dropT (L : List Th) (t : Int) : List Th := L.filter fun a => decide (a.tk ≠ t)
def weighT (L : List Th) (t w : Int) : List Th := L.map fun a => if a.tk = t then { a with wt := w } else a
theorem drop_none {L : List Th} {t : Int} (h : hasT L t = false) : dropT L t = L := by
  unfold dropT
  rw [List.filter_eq_self]
  intro a ha
  rw [decide_eq_true_iff]
  intro e
  have : hasT L t = true := hasT_iff.2 ⟨a, ha, e⟩
  rw [h] at this; cases this
theorem weigh_none {L : List Th} {t w : Int} (h : hasT L t = false) : weighT L t w = L := by
  unfold weighT
  conv => rhs; rw [← List.map_id L]
  refine List.map_congr_left ?_
  intro a ha
  rw [if_neg]
  · rfl
  · intro e
    have : hasT L t = true := hasT_iff.2 ⟨a, ha, e⟩
    rw [h] at this; cases this
theorem rise_drop {L : List Th} (h : Rise L) (t : Int) : Rise (dropT L t) := List.Pairwise.filter _ h
theorem rise_weigh {L : List Th} (h : Rise L) (t w : Int) : Rise (weighT L t w) := by
  unfold weighT Rise
  refine List.pairwise_map.2 (h.imp ?_)
  intro a b hab
  split <;> split <;> exact hab
theorem Ab.push {es : List En} {L : List Th} {last : Int} (h : Ab es L last) (e : En) (he : e.tk = last + 1) (h0 : 0 ≤ last) : Ab (upE (es ++ [e]) es.length) (L ++ [tri e]) (last + 1) := by
  obtain ⟨p1, p2⟩ := push_spec h.heap e
  refine ⟨by rw [p1.length_eq]; simpa using p2, ?_, ?_, fun t ht => ?_⟩
  · refine (p1.map tri).trans ?_
    rw [List.map_append]
    exact h.perm.append_right _
  · refine List.pairwise_append.2 ⟨h.rise, List.pairwise_singleton _ _, fun a ha b hb => ?_⟩
    simp at hb
    subst hb
    have := (h.tks a ha).2
    show a.tk < e.tk
    omega
  · rcases List.mem_append.1 ht with h1 | h1
    · have := h.tks t h1; omega
    · simp at h1
      subst h1
      show 1 ≤ e.tk ∧ e.tk ≤ last + 1
      omega
theorem Ab.drop {es : List En} {L : List Th} {last : Int} (h : Ab es L last) {i n : Nat} (hi : i < es.length) (hl : es.length = n + 1) : Ab (outE es i n hi (by omega)).dropLast (dropT L es[i].tk) last := by
  obtain ⟨p1, p2, p3⟩ := out_spec hi hl h.heap
  refine ⟨by rw [p3]; exact p2, ?_, rise_drop h.rise _, fun t ht => h.tks t (List.mem_filter.1 ht).1⟩
  refine (p1.map tri).trans ?_
  have e1 : ((es[i] :: es.eraseIdx i).map tri).Perm L := ((erase_perm es i hi).map tri).trans h.perm
  have e2 := e1.filter (fun a => decide (a.tk ≠ es[i].tk))
  have e3 : ((es[i] :: es.eraseIdx i).map tri).filter (fun a => decide (a.tk ≠ es[i].tk)) = (es.eraseIdx i).map tri := by
    rw [List.map_cons, List.filter_cons_of_neg (by simp [tri]), List.filter_eq_self]
    intro a ha
    obtain ⟨e, he, rfl⟩ := List.mem_map.1 ha
    obtain ⟨k, hk, rfl⟩ := List.getElem_of_mem he
    rw [decide_eq_true_iff]
    intro ee
    rw [List.getElem_eraseIdx] at ee
    rw [List.length_eraseIdx, if_pos hi] at hk
    split at ee
    · have := h.tk_inj (by omega) hi ee; omega
    · have := h.tk_inj (by omega) hi ee; omega
  rw [e3] at e2
  exact e2
theorem Ab.weigh {es : List En} {L : List Th} {last : Int} (h : Ab es L last) {i : Nat} (hi : i < es.length) (w : Int) : Ab (fixE (es.set i { es[i] with wt := w }) i es.length) (weighT L es[i].tk w) last := by
  obtain ⟨p1, p2⟩ := weigh_spec hi h.heap { es[i] with wt := w }
  refine ⟨by rw [p1.length_eq]; simpa using p2, ?_, rise_weigh h.rise _ _, fun t ht => ?_⟩
  · refine (p1.map tri).trans ?_
    have e1 := h.perm.map (fun a : Th => if a.tk = es[i].tk then { a with wt := w } else a)
    have e2 : (es.map tri).map (fun a : Th => if a.tk = es[i].tk then { a with wt := w } else a) = (es.set i { es[i] with wt := w }).map tri := by
      refine List.ext_getElem (by simp) (fun k h1 h2 => ?_)
      simp only [List.getElem_map]
      have hk : k < es.length := by simpa using h1
      rw [List.getElem_set]
      by_cases hik : i = k
      · subst hik
        rw [if_pos rfl]
        simp [tri]
      · rw [if_neg hik, if_neg]
        intro e
        exact hik (h.tk_inj hk hi e).symm
    rw [e2] at e1
    exact e1
  · obtain ⟨a, ha, rfl⟩ := List.mem_map.1 ht
    split
    · exact h.tks a ha
    · exact h.tks a ha
theorem ab_none : Ab [] [] 0 := ⟨fun k h => absurd h (Nat.not_lt_zero _), List.Perm.refl _, List.Pairwise.nil, fun t ht => absurd ht (by simp)⟩
/-- Without the next. -/
theorem drop_nx {L : List Th} (hR : Rise L) (hn : nxI L < L.length) : dropT L L[nxI L].tk = L.eraseIdx (nxI L) := by
  unfold dropT
  generalize nxI L = k at hn
  induction L generalizing k with
  | nil => simp at hn
  | cons a r ih =>
    have hr := (List.pairwise_cons.1 hR)
    cases k with
    | zero =>
      rw [List.filter_cons_of_neg (by simp), List.eraseIdx_cons_zero, List.filter_eq_self]
      intro b hb
      have := hr.1 b hb
      simp
      omega
    | succ k =>
      have hk : k < r.length := by simpa using hn
      have := hr.1 r[k] (List.getElem_mem hk)
      simp only [List.getElem_cons_succ]
      rw [List.filter_cons_of_pos (by simp; omega), List.eraseIdx_cons_succ, ih hr.2 k hk]
end Go.Proofs.Ytchjdpmgocapjaa
