/- Rows of items, plainly: what Add keeps. -/
import Derived.Test.YtlbmamkkbpjafabBList
namespace Go.Proofs.Ytlbmamkkbpjafab

theorem srt_iff (l : List It) : Srt l ↔ (l.map (·.1.1)).Pairwise (· < ·) := by
  rw [List.pairwise_map, List.pairwise_iff_getElem]
  constructor
  · intro h i j hi hj hij
    exact h i j hi hj hij
  · intro h i j hi hj hij
    exact h i j hi hj hij
theorem take_lt (k : Int) : ∀ (l : List It), ∀ y ∈ l.take (posK k l), y.1.1 < k
  | [], y, h => by simp at h
  | z :: r, y, h => by
    unfold posK at h
    split at h
    · rw [List.take_succ_cons] at h
      rcases List.mem_cons.1 h with rfl | h
      · assumption
      · exact take_lt k r y h
    · simp at h
theorem drop_ge (k : Int) : ∀ (l : List It), Srt l → ∀ y ∈ l.drop (posK k l), k ≤ y.1.1
  | [], _, y, h => by simp at h
  | z :: r, hs, y, h => by
    have hp := (srt_iff (z :: r)).1 hs
    rw [List.map_cons, List.pairwise_cons] at hp
    unfold posK at h
    split at h
    · rw [List.drop_succ_cons] at h
      exact drop_ge k r ((srt_iff r).2 hp.2) y h
    · rw [List.drop_zero] at h
      rcases List.mem_cons.1 h with rfl | h
      · omega
      · have := hp.1 y.1.1 (List.mem_map_of_mem h)
        omega
theorem drop_gt (k : Int) (l : List It) (hs : Srt l) (ht : thereB k l = false) : ∀ y ∈ l.drop (posK k l), k < y.1.1 := by
  intro y hy
  have h1 := drop_ge k l hs y hy
  rcases Int.lt_or_eq_of_le h1 with h | h
  · exact h
  · exfalso
    obtain ⟨i, hi, hyi⟩ := List.mem_iff_getElem.1 hy
    rw [List.length_drop] at hi
    rw [List.getElem_drop] at hyi
    have hlt : posK k l < l.length := by omega
    have h2 : k ≤ l[posK k l].1.1 := drop_ge k l hs _ (by rw [List.drop_eq_getElem_cons hlt]; exact List.mem_cons_self)
    have h3 : l[posK k l].1.1 ≤ y.1.1 := by
      by_cases h0 : i = 0
      · subst h0
        rw [← hyi]
        exact Int.le_refl _
      · have := hs (posK k l) (posK k l + i) hlt (by omega) (by omega)
        rw [← hyi]
        omega
    unfold thereB at ht
    rw [List.getElem?_eq_getElem hlt] at ht
    have h4 : l[posK k l].1.1 = k := by omega
    simp [h4] at ht
theorem addP_srt (x : Th) (n : Int) (l : List It) (hs : Srt l) : Srt (addP x n l).2 := by
  unfold addP
  split
  · exact hs
  · split
    · exact hs
    · split
      · exact (srt_iff _).2 (((srt_iff _).1 hs).sublist ((List.eraseIdx_sublist l _).map _))
      · split
        · cases hg : l[posK x.1 l]? with
          | none => exact hs
          | some y =>
            obtain ⟨hp, rfl⟩ := List.getElem?_eq_some_iff.1 hg
            refine (srt_iff _).2 ?_
            have e : (l.set (posK x.1 l) (l[posK x.1 l].1, cntK x.1 l + n)).map (·.1.1) = l.map (·.1.1) := by
              rw [List.map_set]
              apply List.ext_getElem
              · simp
              · intro i h1 h2
                rw [List.getElem_set]
                split
                · subst_vars
                  simp
                · rfl
            dsimp only
            rw [e]
            exact (srt_iff _).1 hs
        · rename_i h
          have hf : thereB x.1 l = false := by simpa using h
          refine (srt_iff _).2 ?_
          dsimp only
          have h0 := (srt_iff _).1 hs
          have e : l.map (·.1.1) = (l.take (posK x.1 l)).map (·.1.1) ++ (l.drop (posK x.1 l)).map (·.1.1) := by rw [← List.map_append, List.take_append_drop]
          rw [e, List.pairwise_append] at h0
          rw [List.map_append, List.map_cons, List.pairwise_append, List.pairwise_cons]
          refine ⟨h0.1, ⟨?_, h0.2.1⟩, ?_⟩
          · intro a ha
            obtain ⟨y, hy, rfl⟩ := List.mem_map.1 ha
            exact drop_gt x.1 l hs hf y hy
          · intro a ha b hb
            obtain ⟨y, hy, rfl⟩ := List.mem_map.1 ha
            rcases List.mem_cons.1 hb with rfl | hb
            · exact take_lt x.1 l y hy
            · exact h0.2.2 _ ha b hb
theorem addP_pos (x : Th) (n : Int) (l : List It) (h : ∀ y ∈ l, 1 ≤ y.2) : ∀ y ∈ (addP x n l).2, 1 ≤ y.2 := by
  unfold addP
  split
  · exact h
  · split
    · exact h
    · rename_i h1
      split
      · exact fun y hy => h y ((List.eraseIdx_sublist l _).mem hy)
      · rename_i h2
        split
        · cases hg : l[posK x.1 l]? with
          | none => exact h
          | some z =>
            intro y hy
            rcases List.mem_or_eq_of_mem_set hy with hy | rfl
            · exact h y hy
            · show 1 ≤ cntK x.1 l + n
              omega
        · intro y hy
          dsimp only at hy
          rcases List.mem_append.1 hy with hy | hy
          · exact h y (List.mem_of_mem_take hy)
          · rcases List.mem_cons.1 hy with rfl | hy
            · show 1 ≤ cntK x.1 l + n
              omega
            · exact h y (List.mem_of_mem_drop hy)
theorem len_sum : ∀ (l : List It), (∀ y ∈ l, 1 ≤ y.2) → (l.length : Int) ≤ sumN l
  | [], _ => Int.le_refl _
  | y :: r, h => by
    have h1 := len_sum r (fun z hz => h z (List.mem_cons_of_mem _ hz))
    have h2 := h y List.mem_cons_self
    show ((r.length + 1 : Nat) : Int) ≤ y.2 + sumN r
    omega
end Go.Proofs.Ytlbmamkkbpjafab
