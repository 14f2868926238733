/- What a symbol that comes behind changes, plainly. -/
import Derived.Test.YtpngaeabkmbefaaChkPlain
import Derived.Test.YtpngaeabkmbefaaUnit
namespace Go.Proofs.Ytpngaeabkmbefaa
open Go.RowKit

theorem errAt_append {l : List Sym} {x : Sym} {k : Nat} (hk : k < l.length) : errAt (l ++ [x]) k = errAt l k := by
  unfold errAt
  rw [dif_pos hk, dif_pos (by simp; omega), List.getElem_append_left hk, List.take_append_of_le_length (by omega)]
theorem firstErr_some {l : List Sym} {k : Nat} (h : firstErr l = some k) : k < l.length ∧ errAt l k ≠ 0 ∧ ∀ j, j < k → errAt l j = 0 := by
  unfold firstErr at h
  rw [List.find?_range_eq_some] at h
  obtain ⟨h1, h2, h3⟩ := h
  exact ⟨by simpa using h2, by simpa using h1, fun j hj => by simpa using h3 j hj⟩
theorem firstErr_none {l : List Sym} (h : firstErr l = none) : ∀ j, j < l.length → errAt l j = 0 := by
  unfold firstErr at h
  rw [List.find?_eq_none] at h
  intro j hj
  simpa using h j (by simpa using hj)
theorem check_ok {l : List Sym} (h : checkE l = 0) : ¬ 16 < l.length ∧ ∀ j, j < l.length → errAt l j = 0 := by
  unfold checkE at h
  split at h
  · omega
  · rename_i h16
    refine ⟨h16, ?_⟩
    cases hf : firstErr l with
    | none => exact firstErr_none hf
    | some k =>
      rw [hf] at h
      exact absurd h (firstErr_some hf).2.1
/-- What was wrong stays wrong. -/
theorem new_bad {l : List Sym} {x : Sym} (h : checkE l ≠ 0) (h16 : ¬ 16 < l.length + 1) : checkE (l ++ [x]) ≠ 0 := by
  have h16' : ¬ 16 < l.length := by omega
  have h16'' : ¬ 16 < (l ++ [x]).length := by simpa using h16
  cases hf : firstErr l with
  | none => exact absurd (checkE_miss h16' hf) h
  | some k =>
    obtain ⟨hk, he, hno⟩ := firstErr_some hf
    rw [checkE_hit h16'' (firstErr_hit (k := k) (by simp; omega) (by rw [errAt_append hk]; exact he) (fun j hj => by rw [errAt_append (by omega)]; exact hno j hj)), errAt_append hk]
    exact he
/-- The one that comes behind is the first that may not be, or there are too many. -/
theorem new_place {l : List Sym} {x : Sym} (h : checkE l = 0) (h2 : checkE (l ++ [x]) ≠ 0) : checkP (l ++ [x]) = l.length ∨ (checkE (l ++ [x]) = 15 ∧ checkP (l ++ [x]) = 0) := by
  obtain ⟨_, hno⟩ := check_ok h
  by_cases h16 : 16 < (l ++ [x]).length
  · right; simp [checkE, checkP] at h16 ⊢; omega
  · left
    cases hf : firstErr (l ++ [x]) with
    | none => exact absurd (checkE_miss h16 hf) h2
    | some k =>
      obtain ⟨hk, he, _⟩ := firstErr_some hf
      rw [checkP_hit h16 hf]
      by_cases hkl : k < l.length
      · rw [errAt_append hkl] at he; exact absurd (hno k hkl) he
      · simp at hk; omega
theorem symErr_name {l : List Sym} {x : Sym} (h : symErr l x = 0) : findB l x.name = false := by
  unfold symErr at h
  split at h
  · omega
  · rename_i h1; cases hf : findB l x.name
    · rfl
    · exact absurd (Or.inl hf) h1
theorem findB_false {l : List Sym} {nm : ByteArray} (h : findB l nm = false) : ∀ y ∈ l, sameB y.name nm = false := by
  unfold findB findL at h
  rw [List.findIdx?_isSome, List.any_eq_false] at h
  intro y hy
  simpa using h y hy
theorem sameB_refl (s : ByteArray) : sameB s s = true := by simp [sameB]
/-- Each symbol of a right signature is found by its name, at its place, in it and in what it begins. -/
theorem find_own {l m : List Sym} {i : Nat} (hi : i < l.length) (h : errAt l i = 0) : findL (l ++ m) l[i].name = some i := by
  unfold errAt at h
  rw [dif_pos hi] at h
  have hf := findB_false (symErr_name h)
  refine find_hit (by simp; omega) (by rw [List.getElem_append_left hi]; exact sameB_refl _) (fun j hj hji => ?_)
  have hjl : j < l.length := by omega
  rw [List.getElem_append_left hjl]
  exact hf l[j] (by rw [List.mem_take_iff_getElem]; exact ⟨j, by omega, rfl⟩)
theorem find_front {l m : List Sym} {nm : ByteArray} {k : Nat} (h : findL l nm = some k) : findL (l ++ m) nm = some k := by
  unfold findL at *
  rw [List.findIdx?_append, h]; rfl
theorem find_mem {l : List Sym} {nm : ByteArray} {y : Sym} (hy : y ∈ l) (h : sameB y.name nm = true) : ∃ k, findL l nm = some k := by
  cases hf : findL l nm with
  | some k => exact ⟨k, rfl⟩
  | none =>
    have : findB l nm = false := findB_none hf
    rw [findB_false this y hy] at h; cases h
theorem unit_same {l m : List Sym} {i : Nat} (hi : i < l.length) (h : errAt l i = 0) : unitAt (l ++ m) i = unitAt l i := by
  have hi' : i < (l ++ m).length := by simp; omega
  by_cases hk : l[i].kind = 3
  · rw [unit_is hi hk, unit_is hi' (by rw [List.getElem_append_left hi]; exact hk), List.getElem_append_left hi]
    unfold errAt at h
    rw [dif_pos hi] at h
    have hu := symErr_unit h
    unfold unitB at hu
    rw [if_pos hk, List.any_eq_true] at hu
    obtain ⟨y, hy, hy2⟩ := hu
    obtain ⟨k, hk2⟩ := find_mem (List.mem_of_mem_take hy) (by simp [isUnit] at hy2; exact hy2.2)
    rw [hk2, find_front hk2]
  · rw [unit_not hi hk, unit_not hi' (by rw [List.getElem_append_left hi]; exact hk)]
end Go.Proofs.Ytpngaeabkmbefaa
