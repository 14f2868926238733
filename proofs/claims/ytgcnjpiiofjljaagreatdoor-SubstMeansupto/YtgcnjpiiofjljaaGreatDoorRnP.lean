/- Plainly: names given anew from left to right (as they are met, or first each name once, then each that is not kept) are one list. -/
namespace Go.Proofs.YtgcnjpiiofjljaaGreatDoor

section
variable {α : Type} [DecidableEq α]

/-- The next number whose name is not kept, within so many tries. -/
def skipN (keep : List α) (nm : Nat → α) : Nat → Nat → Nat
  | 0, n => n
  | f + 1, n => if nm n ∈ keep then skipN keep nm f (n + 1) else n
def nxt (keep : List α) (nm : Nat → α) (n : Nat) : Nat := skipN keep nm keep.length n
theorem skip_all (keep : List α) (nm : Nat → α) : ∀ (f n : Nat), nm (skipN keep nm f n) ∈ keep → ∀ i, i ≤ f → nm (n + i) ∈ keep
  | 0, n, h, i, hi => by
    obtain rfl : i = 0 := by omega
    exact h
  | f + 1, n, h, i, hi => by
    rw [skipN] at h
    by_cases hn : nm n ∈ keep
    · rw [if_pos hn] at h
      cases i with
      | zero => exact hn
      | succ i =>
        have h2 := skip_all keep nm f (n + 1) h i (by omega)
        rw [show n + (i + 1) = n + 1 + i by omega]
        exact h2
    · rw [if_neg hn] at h
      exact absurd h hn
theorem pigeon {nm : Nat → α} (inj : ∀ a b, nm a = nm b → a = b) : ∀ (f n : Nat) (keep : List α), (∀ i, i ≤ f → nm (n + i) ∈ keep) → f < keep.length
  | 0, n, keep, h => List.length_pos_of_mem (h 0 (Nat.le_refl _))
  | f + 1, n, keep, h => by
    have hm := h (f + 1) (Nat.le_refl _)
    have h2 := pigeon inj f n (keep.erase (nm (n + (f + 1)))) fun i hi => by
      refine (List.mem_erase_of_ne ?_).2 (h i (by omega))
      intro he
      have := inj _ _ he
      omega
    rw [List.length_erase_of_mem hm] at h2
    omega
theorem nxt_free {nm : Nat → α} (inj : ∀ a b, nm a = nm b → a = b) (keep : List α) (n : Nat) : nm (nxt keep nm n) ∉ keep := fun h =>
  Nat.lt_irrefl _ (pigeon inj keep.length n keep (skip_all keep nm keep.length n h))
theorem skip_low (keep : List α) (nm : Nat → α) : ∀ (f n : Nat), n ≤ skipN keep nm f n ∧ skipN keep nm f n ≤ n + f ∧ ∀ j, n ≤ j → j < skipN keep nm f n → nm j ∈ keep
  | 0, n => ⟨Nat.le_refl _, Nat.le_refl _, fun j h1 h2 => by rw [skipN] at h2; omega⟩
  | f + 1, n => by
    rw [skipN]
    by_cases hn : nm n ∈ keep
    · rw [if_pos hn]
      obtain ⟨h1, h2, h3⟩ := skip_low keep nm f (n + 1)
      refine ⟨by omega, by omega, fun j hj1 hj2 => ?_⟩
      by_cases hj : j = n
      · rw [hj]; exact hn
      · exact h3 j (by omega) hj2
    · rw [if_neg hn]
      exact ⟨Nat.le_refl _, by omega, fun j h1 h2 => by omega⟩
theorem nxt_ge (keep : List α) (nm : Nat → α) (n : Nat) : n ≤ nxt keep nm n := (skip_low keep nm _ n).1
theorem nxt_le (keep : List α) (nm : Nat → α) (n : Nat) : nxt keep nm n ≤ n + keep.length := (skip_low keep nm _ n).2.1
/-- Within a loop that goes on while the name is kept: where it stops. -/
theorem nxt_stop {nm : Nat → α} {keep : List α} {n j : Nat} (h1 : n ≤ j) (h2 : j ≤ nxt keep nm n) (h : nm j ∉ keep) : j = nxt keep nm n := by
  rcases Nat.lt_or_ge j (nxt keep nm n) with hj | hj
  · exact absurd ((skip_low keep nm _ n).2.2 j h1 hj) h
  · omega
theorem nxt_more {nm : Nat → α} (inj : ∀ a b, nm a = nm b → a = b) {keep : List α} {n j : Nat} (h2 : j ≤ nxt keep nm n) (h : nm j ∈ keep) : j + 1 ≤ nxt keep nm n := by
  rcases Nat.lt_or_ge j (nxt keep nm n) with hj | hj
  · exact hj
  · have e : j = nxt keep nm n := by omega
    rw [e] at h
    exact absurd h (nxt_free inj keep n)
/-- A name is met: the program's way. -/
def nameP (keep : List α) (nm : Nat → α) (st : List (α × α) × Nat) (old : α) : List (α × α) × Nat :=
  if old ∈ st.1.map (·.1) ∨ old ∈ keep then st else (st.1 ++ [(old, nm (nxt keep nm st.2))], nxt keep nm st.2 + 1)
/-- The document's: each name comes once. -/
def nameD (keep : List α) (nm : Nat → α) (st : List (α × α) × Nat) (old : α) : List (α × α) × Nat :=
  if old ∈ keep then st else (st.1 ++ [(old, nm (nxt keep nm st.2))], nxt keep nm st.2 + 1)
/-- Each name once, as it comes first. -/
def onceN (l : List α) (x : α) : List α := if x ∈ l then l else l ++ [x]
theorem keys_step (keep : List α) (nm : Nat → α) (st : List (α × α) × Nat) (x : α) : (nameD keep nm st x).1.map (·.1) = st.1.map (·.1) ++ [x].filter fun x => decide (x ∉ keep) := by
  unfold nameD
  by_cases h : x ∈ keep
  · rw [if_pos h]; simp [h]
  · rw [if_neg h]; simp [h]
theorem keys_fold (keep : List α) (nm : Nat → α) : ∀ (l : List α) (st : List (α × α) × Nat), (l.foldl (nameD keep nm) st).1.map (·.1) = st.1.map (·.1) ++ l.filter fun x => decide (x ∉ keep)
  | [], st => by simp
  | x :: r, st => by
    rw [List.foldl_cons, keys_fold keep nm r, keys_step, List.append_assoc, ← List.filter_append]
    rfl
theorem names_one (keep : List α) (nm : Nat → α) (n : Nat) (F : List α) (x : α) : nameP keep nm (F.foldl (nameD keep nm) ([], n)) x = (onceN F x).foldl (nameD keep nm) ([], n) := by
  have hk := keys_fold keep nm F ([], n)
  rw [List.map_nil, List.nil_append] at hk
  unfold nameP onceN
  rw [hk]
  by_cases hF : x ∈ F
  · rw [if_pos hF, if_pos]
    by_cases h : x ∈ keep
    · exact .inr h
    · exact .inl (List.mem_filter.2 ⟨hF, by simpa using h⟩)
  · rw [if_neg hF, List.foldl_append, List.foldl_cons, List.foldl_nil]
    unfold nameD
    by_cases h : x ∈ keep
    · rw [if_pos (.inr h), if_pos h]
    · rw [if_neg, if_neg h]
      rintro (h2 | h2)
      · exact hF (List.mem_filter.1 h2).1
      · exact h h2
/-- Both ways give one list and one number. -/
theorem names_both (keep : List α) (nm : Nat → α) (n : Nat) : ∀ (occ F : List α), occ.foldl (nameP keep nm) (F.foldl (nameD keep nm) ([], n)) = (occ.foldl onceN F).foldl (nameD keep nm) ([], n)
  | [], F => rfl
  | x :: r, F => by
    rw [List.foldl_cons, List.foldl_cons, names_one, names_both keep nm n r]
theorem names_same (keep : List α) (nm : Nat → α) (n : Nat) (occ : List α) : occ.foldl (nameP keep nm) ([], n) = (occ.foldl onceN []).foldl (nameD keep nm) ([], n) := names_both keep nm n occ []
/-- What is given: names by rising numbers, none of them kept, each old name once. -/
structure Given (keep : List α) (nm : Nat → α) (n : Nat) (st : List (α × α) × Nat) : Prop where
  ge : n ≤ st.2
  old : (st.1.map (·.1)).Nodup
  out : ∀ p ∈ st.1, p.1 ∉ keep
  num : ∃ js : List Nat, st.1.map (·.2) = js.map nm ∧ js.Pairwise (· < ·) ∧ ∀ j ∈ js, n ≤ j ∧ j < st.2 ∧ nm j ∉ keep
omit [DecidableEq α] in
theorem Given.start (keep : List α) (nm : Nat → α) (n : Nat) : Given keep nm n ([], n) :=
  ⟨Nat.le_refl _, List.nodup_nil, (fun _ h => absurd h List.not_mem_nil), [], rfl, List.Pairwise.nil, fun _ h => absurd h List.not_mem_nil⟩
theorem Given.step {keep : List α} {nm : Nat → α} (inj : ∀ a b, nm a = nm b → a = b) {n : Nat} {st : List (α × α) × Nat} (h : Given keep nm n st) (x : α) : Given keep nm n (nameP keep nm st x) := by
  unfold nameP
  by_cases hx : x ∈ st.1.map (·.1) ∨ x ∈ keep
  · rw [if_pos hx]; exact h
  · rw [if_neg hx]
    rw [not_or] at hx
    have hge := nxt_ge keep nm st.2
    have h0 := h.ge
    obtain ⟨js, e1, e2, e3⟩ := h.num
    refine ⟨by show n ≤ nxt keep nm st.2 + 1; omega, ?_, ?_, js ++ [nxt keep nm st.2], ?_, ?_, ?_⟩
    · show (List.map (·.1) (st.1 ++ [(x, nm (nxt keep nm st.2))])).Nodup
      rw [List.map_append, List.nodup_append]
      refine ⟨h.old, by simp, ?_⟩
      intro a ha b hb
      rw [List.map_cons, List.map_nil, List.mem_singleton] at hb
      rintro rfl
      rw [hb] at ha
      exact hx.1 ha
    · intro p hp
      rcases List.mem_append.1 hp with h1 | h1
      · exact h.out p h1
      · rw [List.mem_singleton.1 h1]; exact hx.2
    · show List.map (·.2) (st.1 ++ [(x, nm (nxt keep nm st.2))]) = _
      rw [List.map_append, e1, List.map_append]
      rfl
    · rw [List.pairwise_append]
      refine ⟨e2, List.pairwise_singleton _ _, fun a ha b hb => ?_⟩
      rw [List.mem_singleton.1 hb]
      have := (e3 a ha).2.1
      omega
    · intro j hj
      show n ≤ j ∧ j < nxt keep nm st.2 + 1 ∧ nm j ∉ keep
      rcases List.mem_append.1 hj with h1 | h1
      · obtain ⟨k1, k2, k3⟩ := e3 j h1
        exact ⟨k1, by omega, k3⟩
      · rw [List.mem_singleton.1 h1]
        exact ⟨by omega, by omega, nxt_free inj keep _⟩
theorem Given.fold {keep : List α} {nm : Nat → α} (inj : ∀ a b, nm a = nm b → a = b) {n : Nat} : ∀ (occ : List α) {st : List (α × α) × Nat}, Given keep nm n st → Given keep nm n (occ.foldl (nameP keep nm) st)
  | [], _, h => h
  | x :: r, _, h => Given.fold inj r (h.step inj x)
omit [DecidableEq α] in
/-- No two new names are alike. -/
theorem Given.news {keep : List α} {nm : Nat → α} (inj : ∀ a b, nm a = nm b → a = b) {n : Nat} {st : List (α × α) × Nat} (h : Given keep nm n st) : (st.1.map (·.2)).Nodup := by
  obtain ⟨js, e1, e2, -⟩ := h.num
  rw [e1, List.nodup_iff_pairwise_ne, List.pairwise_map]
  exact e2.imp fun hab he => by have := inj _ _ he; omega
/-- What is met is given or kept. -/
theorem met_step (keep : List α) (nm : Nat → α) (st : List (α × α) × Nat) (x : α) : x ∈ (nameP keep nm st x).1.map (·.1) ∨ x ∈ keep := by
  unfold nameP
  by_cases hx : x ∈ st.1.map (·.1) ∨ x ∈ keep
  · rw [if_pos hx]; exact hx
  · rw [if_neg hx]; exact .inl (by simp)
theorem met_stays (keep : List α) (nm : Nat → α) : ∀ (occ : List α) (st : List (α × α) × Nat) (p : α × α), p ∈ st.1 → p ∈ (occ.foldl (nameP keep nm) st).1
  | [], _, _, h => h
  | x :: r, st, p, h => by
    rw [List.foldl_cons]
    refine met_stays keep nm r _ p ?_
    unfold nameP
    by_cases hx : x ∈ st.1.map (·.1) ∨ x ∈ keep
    · rw [if_pos hx]; exact h
    · rw [if_neg hx]; exact List.mem_append_left _ h
theorem met_all (keep : List α) (nm : Nat → α) : ∀ (occ : List α) (st : List (α × α) × Nat) (x : α), x ∈ occ → x ∈ (occ.foldl (nameP keep nm) st).1.map (·.1) ∨ x ∈ keep
  | y :: r, st, x, h => by
    rw [List.foldl_cons]
    rcases List.mem_cons.1 h with rfl | h
    · rcases met_step keep nm st x with h1 | h1
      · obtain ⟨p, hp, rfl⟩ := List.mem_map.1 h1
        exact .inl (List.mem_map.2 ⟨p, met_stays keep nm r _ p hp, rfl⟩)
      · exact .inr h1
    · exact met_all keep nm r _ x h
end
end Go.Proofs.YtgcnjpiiofjljaaGreatDoor
