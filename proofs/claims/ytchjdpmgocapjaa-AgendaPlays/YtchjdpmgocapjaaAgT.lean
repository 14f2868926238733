/- What AgendaSame puts in, drops and weighs, plainly. -/
import Derived.Test.YtchjdpmgocapjaaAgS
namespace Go.Proofs.Ytchjdpmgocapjaa

/-- The ticket of the k-th thing where the first m have another one behind them. -/
def tkA (m k : Nat) : Int := ((k + min k m + 1 : Nat) : Int)
def oneA (f : Nat → Int) (m k : Nat) : Th := ⟨k, f k, tkA m k⟩
def oneB (b : Nat → Int) (k : Nat) : Th := ⟨-1, b k, ((2 * k + 2 : Nat) : Int)⟩
/-- What is in behind i rounds. -/
def manyA (f b : Nat → Int) (m i : Nat) : List Th := (List.range i).flatMap fun k => oneA f m k :: if k < m then [oneB b k] else []
theorem many_succ (f b : Nat → Int) (m i : Nat) : manyA f b m (i + 1) = manyA f b m i ++ [oneA f m i] ++ (if i < m then [oneB b i] else []) := by
  unfold manyA
  rw [List.range_succ, List.flatMap_append]
  simp
theorem many_len (f b : Nat → Int) (m i : Nat) : (manyA f b m i).length = i + min i m := by
  induction i with
  | zero => simp [manyA]
  | succ i ih =>
    rw [many_succ, List.length_append, List.length_append, ih]
    split <;> simp <;> omega
/-- .. without the others from q on. -/
def lessA (f b : Nat → Int) (m n q : Nat) : List Th := (List.range n).flatMap fun k => oneA f m k :: if k < m ∧ k < q then [oneB b k] else []
theorem less_all (f b : Nat → Int) (m n : Nat) : lessA f b m n (min n m) = manyA f b m n := by
  unfold lessA manyA
  rw [List.flatMap_def, List.flatMap_def]
  congr 1
  refine List.map_congr_left (fun k hk => ?_)
  have hk' : k < n := List.mem_range.1 hk
  by_cases h : k < m
  · rw [if_pos ⟨h, by omega⟩, if_pos h]
  · rw [if_neg (fun hx => h hx.1), if_neg h]
theorem less_drop (f b : Nat → Int) (m n q : Nat) (hq : q < min n m) : dropT (lessA f b m n (q + 1)) ((2 * q + 2 : Nat) : Int) = lessA f b m n q := by
  unfold lessA dropT
  rw [List.filter_flatMap, List.flatMap_def, List.flatMap_def]
  congr 1
  refine List.map_congr_left (fun k hk => ?_)
  have hk' : k < n := List.mem_range.1 hk
  rw [List.filter_cons_of_pos (by
    rw [decide_eq_true_iff]
    show tkA m k ≠ _
    unfold tkA
    omega)]
  congr 1
  by_cases h : k < m ∧ k < q
  · rw [if_pos h, if_pos ⟨h.1, by omega⟩, List.filter_cons_of_pos]
    · rfl
    · rw [decide_eq_true_iff]
      show ((2 * k + 2 : Nat) : Int) ≠ _
      omega
  · rw [if_neg h]
    by_cases h2 : k < m ∧ k < q + 1
    · rw [if_pos h2, List.filter_cons_of_neg]
      · rfl
      · rw [decide_eq_true_iff]
        show ¬ ((2 * k + 2 : Nat) : Int) ≠ _
        have : k = q := by omega
        subst this
        simp
    · rw [if_neg h2]
      rfl
/-- .. and from q on weighed anew. -/
def turnA (f w : Nat → Int) (m n q : Nat) : List Th := (List.range n).map (oneA (fun k => if q ≤ k then w k else f k) m)
theorem less_none (f b w : Nat → Int) (m n : Nat) : lessA f b m n 0 = turnA f w m n n := by
  unfold lessA turnA
  rw [List.map_eq_flatMap, List.flatMap_def, List.flatMap_def]
  congr 1
  refine List.map_congr_left (fun k hk => ?_)
  have hk' : k < n := List.mem_range.1 hk
  rw [if_neg (by omega)]
  unfold oneA
  simp only
  rw [if_neg (by omega)]
theorem tkA_inj {m k l : Nat} (h : tkA m k = tkA m l) : k = l := by unfold tkA at h; omega
theorem turn_step (f w : Nat → Int) (m n q : Nat) : weighT (turnA f w m n (q + 1)) (tkA m q) (w q) = turnA f w m n q := by
  unfold weighT turnA
  rw [List.map_map]
  refine List.map_congr_left (fun k hk => ?_)
  show (if (oneA (fun k => if q + 1 ≤ k then w k else f k) m k).tk = tkA m q then { oneA (fun k => if q + 1 ≤ k then w k else f k) m k with wt := w q } else oneA (fun k => if q + 1 ≤ k then w k else f k) m k) = _
  by_cases h : k = q
  · subst h
    have h1 : (oneA (fun j => if k + 1 ≤ j then w j else f j) m k).tk = tkA m k := rfl
    rw [if_pos h1]
    unfold oneA
    simp only
    rw [if_pos (Nat.le_refl _)]
  · have h1 : ¬ (oneA (fun k => if q + 1 ≤ k then w k else f k) m k).tk = tkA m q := fun e => h (tkA_inj e)
    rw [if_neg h1]
    unfold oneA
    simp only
    by_cases h2 : q + 1 ≤ k
    · rw [if_pos h2, if_pos (by omega)]
    · rw [if_neg h2, if_neg (by omega)]
theorem turn_has (f w : Nat → Int) (m n q : Nat) (hq : q < n) (r : Nat) : hasT (turnA f w m n r) (tkA m q) = true := by
  rw [hasT_iff]
  exact ⟨_, List.mem_map.2 ⟨q, List.mem_range.2 hq, rfl⟩, rfl⟩
/-- The same things by the same weights, whatever their tickets. -/
def Alike (A B : List Th) : Prop := A.map (fun t => (t.x, t.wt)) = B.map (fun t => (t.x, t.wt))
theorem Alike.len {A B : List Th} (h : Alike A B) : A.length = B.length := by
  have := congrArg List.length h
  simpa using this
theorem Alike.at_ {A B : List Th} (h : Alike A B) (k : Nat) (ha : k < A.length) (hb : k < B.length) : A[k].x = B[k].x ∧ A[k].wt = B[k].wt := by
  have h1 : (A.map (fun t => (t.x, t.wt)))[k]? = (B.map (fun t => (t.x, t.wt)))[k]? := by rw [show A.map (fun t => (t.x, t.wt)) = B.map (fun t => (t.x, t.wt)) from h]
  simpa [ha, hb] using h1
theorem Alike.nx {A B : List Th} (h : Alike A B) : nxI A = nxI B := by
  have hl := h.len
  by_cases hA : A = []
  · subst hA
    have : B = [] := List.length_eq_zero_iff.1 hl.symm
    rw [this]
  · have hB : B ≠ [] := fun e => by rw [e] at hl; exact hA (List.length_eq_zero_iff.1 hl)
    refine nx_one (L := B) ?_ (nx_is B hB)
    obtain ⟨a1, a2, a3⟩ := nx_is A hA
    refine ⟨by omega, fun j hj => ?_, fun j hj => ?_⟩
    · have := a2 j (by omega)
      rw [(h.at_ _ a1 (by omega)).2, (h.at_ j (by omega) hj).2] at this
      exact this
    · have := a3 j hj
      rw [(h.at_ _ a1 (by omega)).2, (h.at_ j (by omega) (by omega)).2] at this
      exact this
theorem Alike.erase {A B : List Th} (h : Alike A B) (k : Nat) : Alike (A.eraseIdx k) (B.eraseIdx k) := by
  have e : ∀ (A : List Th) (k : Nat), (A.eraseIdx k).map (fun t => (t.x, t.wt)) = (A.map (fun t => (t.x, t.wt))).eraseIdx k := fun A => by
    induction A with
    | nil => intro k; rfl
    | cons a r ih =>
      intro k
      cases k with
      | zero => rfl
      | succ k => simp [ih]
  unfold Alike at *
  rw [e, e, h]
/-- The things of one agenda, as they came. -/
def rowB (w : Nat → Int) (n : Nat) : List Th := (List.range n).map fun k : Nat => ⟨(k : Int), w k, ((k + 1 : Nat) : Int)⟩
theorem row_succ (w : Nat → Int) (n : Nat) : rowB w (n + 1) = rowB w n ++ [⟨n, w n, ((n + 1 : Nat) : Int)⟩] := by simp [rowB, List.range_succ]
theorem row_len (w : Nat → Int) (n : Nat) : (rowB w n).length = n := by simp [rowB]
theorem alike_end (f w : Nat → Int) (m n : Nat) : Alike (turnA f w m n 0) (rowB w n) := by
  unfold Alike turnA rowB
  rw [List.map_map, List.map_map]
  refine List.map_congr_left (fun k hk => ?_)
  simp [oneA]
end Go.Proofs.Ytchjdpmgocapjaa
