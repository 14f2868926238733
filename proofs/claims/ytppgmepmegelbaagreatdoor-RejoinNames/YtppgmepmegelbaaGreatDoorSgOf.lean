/- A signature as Canon sees it: which places join, and which unit they have; what a right signature and a right term say of it. -/
import Derived.Test.YtppgmepmegelbaaGreatDoorCanS
import Derived.Test.YtppgmepmegelbaaGreatDoorTRChkB
import Derived.Test.YtppgmepmegelbaaGreatDoorUnit
import Derived.Test.YtppgmepmegelbaaGreatDoorChkPlain
namespace Go.Proofs.YtppgmepmegelbaaGreatDoor
open Go.RowKit Go.Deep

def symAt (l : List Sym) (f : Int) : Option Sym := if 0 ≤ f then l[f.toNat]? else none
def joinsAt (l : List Sym) (f : Int) : Bool := match symAt l f with | some x => decide (x.kind = 2) || decide (x.kind = 3) | none => false
def arAt (l : List Sym) (f : Int) : Nat := match symAt l f with | some x => x.arity.toNat | none => 0
def sgOf (l : List Sym) : Sg := ⟨joinsAt l, fun f => (unitAt l f).map fun (i : Nat) => (i : Int)⟩
theorem symAt_in {l : List Sym} {k : Nat} (h : k < l.length) : symAt l (k : Int) = some l[k] := by
  unfold symAt
  rw [if_pos (by omega), Int.toNat_natCast, List.getElem?_eq_getElem h]
theorem symAt_out {l : List Sym} {f : Int} (h : ¬ (0 ≤ f ∧ f.toNat < l.length)) : symAt l f = none := by
  unfold symAt
  split
  · rw [List.getElem?_eq_none_iff]; omega
  · rfl

/-! ### a right signature -/
theorem symErr_zero {l : List Sym} {x : Sym} (h : symErr l x = 0) : findB l x.name = false ∧ kindB x = true ∧ arityB x = true ∧ unitB l x = true := by
  unfold symErr at h
  split at h
  · omega
  · rename_i h1
    split at h
    · omega
    · rename_i h2
      split at h
      · omega
      · rename_i h3
        split at h
        · omega
        · rename_i h4
          exact ⟨by simpa using fun e => h1 (.inl e), by simpa using h2, by simpa using h3, by simpa using h4⟩
theorem right_each {l : List Sym} (h : checkE l = 0) {k : Nat} (hk : k < l.length) : symErr (l.take k) l[k] = 0 := by
  unfold checkE at h
  split at h
  · omega
  · cases hf : firstErr l with
    | none =>
      unfold firstErr at hf
      rw [List.find?_eq_none] at hf
      have := hf k (List.mem_range.2 hk)
      unfold errAt at this
      rw [dif_pos hk] at this
      simpa using this
    | some i =>
      rw [hf] at h
      dsimp only at h
      have := List.find?_some hf
      rw [h] at this
      simp at this
theorem sameB_iff (a b : ByteArray) : sameB a b = true ↔ a = b := by
  unfold sameB
  rw [beq_iff_eq, ByteArray.toList_eq, ByteArray.toList_eq]
  exact ⟨bytes_eq, fun h => by rw [h]⟩
theorem find_at {l : List Sym} {nm : ByteArray} {i : Nat} (h : findL l nm = some i) : ∃ hi : i < l.length, l[i].name = nm ∧ ∀ j (hj : j < i), (l[j]'(by omega)).name ≠ nm := by
  unfold findL at h
  rw [List.findIdx?_eq_some_iff_getElem] at h
  obtain ⟨hi, h1, h2⟩ := h
  refine ⟨hi, (sameB_iff _ _).1 h1, fun j hj e => ?_⟩
  have := h2 j hj
  rw [(sameB_iff _ _).2 e] at this
  simp at this
theorem unit_facts {l : List Sym} (h : checkE l = 0) {f : Int} {i : Nat} (hu : unitAt l f = some i) : ∃ hi : i < l.length, l[i].kind = 1 ∧ l[i].arity = 0 := by
  unfold unitAt at hu
  split at hu
  · rename_i hf
    split at hu
    · rename_i hk
      obtain ⟨hi, h1, h2⟩ := find_at hu
      have he := symErr_zero (right_each h hf.2)
      have hub := he.2.2.2
      unfold unitB at hub
      rw [if_pos hk, List.any_eq_true] at hub
      obtain ⟨y, hy, hyu⟩ := hub
      obtain ⟨k, hkl, rfl⟩ := List.getElem_of_mem hy
      have hk0 : k < f.toNat ∧ k < l.length := by rw [List.length_take] at hkl; omega
      rw [List.getElem_take] at hyu
      unfold isUnit at hyu
      simp only [Bool.and_eq_true, decide_eq_true_eq] at hyu
      obtain ⟨⟨q1, q2⟩, q3⟩ := hyu
      rw [sameB_iff] at q3
      have hik : i = k := by
        rcases Nat.lt_trichotomy i k with hlt | heq | hgt
        · have hfresh := (symErr_zero (right_each h hk0.2)).1
          unfold findB at hfresh
          have : findL (l.take k) l[k].name ≠ none := by
            unfold findL
            rw [Ne, List.findIdx?_eq_none_iff]
            intro hno
            have := hno (l[i]) (by rw [List.mem_take_iff_getElem]; exact ⟨i, by omega, rfl⟩)
            rw [(sameB_iff _ _).2 (h1.trans q3.symm)] at this
            simp at this
          rw [Option.isSome_eq_false_iff, Option.isNone_iff_eq_none] at hfresh
          exact absurd hfresh this
        · exact heq
        · exact absurd q3 (h2 k hgt)
      subst hik
      exact ⟨hi, q1, q2⟩
    · cases hu
  · cases hu
theorem sg_ok {l : List Sym} (h : checkE l = 0) : (sgOf l).Ok (arAt l) := by
  have hu : ∀ f u, (sgOf l).unit f = some u → joinsAt l u = false ∧ arAt l u = 0 := by
    intro f u hu
    simp only [sgOf, Option.map_eq_some_iff] at hu
    obtain ⟨i, hi, rfl⟩ := hu
    obtain ⟨hlt, hk, ha⟩ := unit_facts h hi
    unfold joinsAt arAt
    rw [symAt_in hlt]
    simp [hk, ha]
  exact ⟨fun f u e => (hu f u e).1, fun f u e => (hu f u e).2⟩

/-! ### a right term -/
theorem node_right {l : List Sym} (h : checkE l = 0) {x : ByteArray × Int} {n : Nat} (hn : nodeErr l x n = 0) : nodeOk (sgOf l) (arAt l) x n := by
  unfold nodeErr at hn
  unfold nodeOk
  split at hn
  · rename_i hx
    rw [if_pos hx]
    unfold varErr at hn
    split at hn
    · rename_i h1; exact ⟨h1.2.1, h1.2.2⟩
    · omega
  · rename_i hx
    rw [if_neg hx]
    split at hn
    · rename_i h0
      split at hn
      · rename_i s hs
        split at hn
        · rename_i ht
          have hs' : symAt l x.2 = some s := by unfold symAt; rw [if_pos h0]; exact hs
          have hlt : x.2.toNat < l.length := by
            rcases Nat.lt_or_ge x.2.toNat l.length with h | h
            · exact h
            · rw [List.getElem?_eq_none_iff.2 h] at hs; cases hs
          have hsk : l[x.2.toNat] = s := by rw [List.getElem?_eq_getElem hlt] at hs; exact Option.some.inj hs
          have hkb := (symErr_zero (right_each h hlt)).2.1
          have hab := (symErr_zero (right_each h hlt)).2.2.1
          rw [hsk] at hkb hab
          unfold takesB at ht
          show if joinsAt l x.2 = true then 2 ≤ n else n = arAt l x.2
          unfold joinsAt arAt
          rw [hs']
          dsimp only
          unfold kindB at hkb
          unfold arityB at hab
          by_cases h1 : s.kind = 1
          · rw [if_pos h1] at ht hab
            rw [if_neg (by simp [h1])]
            simp only [beq_iff_eq] at ht
            omega
          · rw [if_neg h1] at ht
            rw [if_pos (by simpa [h1] using hkb)]
            simpa using ht
        · omega
      · omega
    · omega
theorem then_zero {a b : Int} (h : thenC a b = 0) : a = 0 ∧ b = 0 := by
  unfold thenC at h
  split at h
  · exact ⟨by assumption, h⟩
  · omega
theorem errF_right {l : List Sym} (h : checkE l = 0) : ∀ {F : Fo}, errF l F = 0 → RightF (sgOf l) (arAt l) F
  | .nil, _ => trivial
  | .node _ _ x m r, he => by
    rw [errF] at he
    obtain ⟨h1, h2⟩ := then_zero he
    obtain ⟨h3, h4⟩ := then_zero h1
    exact ⟨⟨node_right h h3, errF_right h h4⟩, errF_right h h2⟩
theorem errT_right {l : List Sym} (h : checkE l = 0) {x : ByteArray × Int} {m : Fo} (he : errT l x m = 0) : RightT (sgOf l) (arAt l) (x, m) := by
  unfold errT at he
  obtain ⟨h3, h4⟩ := then_zero he
  exact ⟨node_right h h3, errF_right h h4⟩
end Go.Proofs.YtppgmepmegelbaaGreatDoor
