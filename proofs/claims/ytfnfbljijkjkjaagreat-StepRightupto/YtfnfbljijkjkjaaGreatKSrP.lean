import Derived.Test.YtfnfbljijkjkjaaGreatM5
/- How much a term weighs: its nodes that are no join's; that stays where a term is made canonical without units. -/
namespace Go.Proofs.YtfnfbljijkjkjaaGreat

def wg1 (S : Sg) (x : ByteArray × Int) : Nat := if noName x.1 = true ∧ S.joins x.2 = true then 0 else 1
def wgF (S : Sg) : Fo → Nat
  | .nil => 0
  | .node _ _ x l r => wg1 S x + wgF S l + wgF S r
def wgT (S : Sg) (t : Tn) : Nat := wg1 S t.1 + wgF S t.2
def sumW (S : Sg) (l : List Tn) : Nat := (l.map (wgT S)).sum
theorem sumW_cons (S : Sg) (t : Tn) (l : List Tn) : sumW S (t :: l) = wgT S t + sumW S l := by simp [sumW]
theorem sumW_app (S : Sg) (l m : List Tn) : sumW S (l ++ m) = sumW S l + sumW S m := by simp [sumW]
theorem sumW_perm {S : Sg} {l m : List Tn} (h : List.Perm l m) : sumW S l = sumW S m := (h.map _).sum_nat
theorem wgF_sum (S : Sg) : ∀ F : Fo, wgF S F = sumW S (kidsL F)
  | .nil => rfl
  | .node _ _ x l r => by rw [wgF, kidsL, sumW_cons, wgF_sum S r]; rfl
theorem wgF_mk (S : Sg) (l : List Tn) : wgF S (mkF l) = sumW S l := by rw [wgF_sum, kids_mk]
theorem wg1_le (S : Sg) (x : ByteArray × Int) : wg1 S x ≤ 1 := by unfold wg1; split <;> omega
theorem parts_wg {S : Sg} (hu : ∀ f, S.unit f = none) {f : Int} (hj : S.joins f = true) (t : Tn) : sumW S (partsN S f t) = wgT S t := by
  have h0 : isUn S f t = false := by unfold isUn; rw [hu]
  unfold partsN
  rw [if_neg (by simp [hj]), if_neg (by simp [h0])]
  cases hh : headed f t
  · simp [sumW]
  · rw [if_pos rfl]
    obtain ⟨h1, h2⟩ := headed_iff.1 hh
    have h3 : wg1 S t.1 = 0 := by unfold wg1; rw [if_pos ⟨h1, by rw [h2]; exact hj⟩]
    unfold wgT
    rw [h3, wgF_sum, Nat.zero_add]
theorem flat_wg {S : Sg} (hu : ∀ f, S.unit f = none) {f : Int} (hj : S.joins f = true) : ∀ cs : List Tn, sumW S (cs.flatMap (partsN S f)) = sumW S cs
  | [] => rfl
  | c :: cs => by rw [List.flatMap_cons, sumW_app, sumW_cons, parts_wg hu hj, flat_wg hu hj cs]
theorem join_wg {S : Sg} {f : Int} (hj : S.joins f = true) {l : List Tn} (hne : l ≠ []) : ∃ t, joinL S f l = some t ∧ wgT S t = sumW S l := by
  have h3 : wg1 S (noB, f) = 0 := by unfold wg1; rw [if_pos ⟨noName_noB, hj⟩]
  match l, hne with
  | [t], _ => exact ⟨t, rfl, by simp [sumW]⟩
  | t :: u :: r, _ => exact ⟨_, rfl, by unfold wgT; rw [h3, wgF_mk, sumW_perm (sortN_perm _), Nat.zero_add]⟩
theorem wg_pos_parts {S : Sg} (hu : ∀ f, S.unit f = none) {f : Int} {t : Tn} (h : partsN S f t = []) : headed f t = true ∧ kidsL t.2 = [] := by
  have h0 : isUn S f t = false := by unfold isUn; rw [hu]
  unfold partsN at h
  split at h
  · simp at h
  · rw [if_neg (by simp [h0])] at h
    split at h
    · rename_i hh; exact ⟨hh, h⟩
    · simp at h
theorem canon1_wg {S : Sg} {ar : Int → Nat} (hu : ∀ f, S.unit f = none) {x : ByteArray × Int} {cs : List Tn} (hn : nodeOk S ar x cs.length) (hc : ∀ c ∈ cs, CanT S ar c) : wgT S (canon1 S x cs) = wg1 S x + sumW S cs := by
  unfold canon1
  unfold nodeOk at hn
  cases hx : noName x.1
  · rw [if_pos hx] at hn
    rw [if_pos rfl]
    have h0 : cs = [] := List.length_eq_zero_iff.1 hn.2
    subst h0
    have h1 : wg1 S x = 1 := by unfold wg1; rw [if_neg (by simp [hx])]
    have h2 : wg1 S (x.1, 0) = 1 := by unfold wg1; rw [if_neg (by simp [hx])]
    unfold wgT
    rw [h1, h2]
    rfl
  · rw [if_neg (by simp [hx])] at hn
    rw [if_neg (by decide)]
    cases hj : S.joins x.2
    · rw [if_neg (by decide)]
      have h1 : wg1 S x = 1 := by unfold wg1; rw [if_neg (by simp [hj])]
      have h2 : wg1 S (noB, x.2) = 1 := by unfold wg1; rw [if_neg (by simp [hj])]
      unfold wgT
      rw [h1, h2, wgF_mk]
    · rw [hj, if_pos rfl] at hn
      rw [if_pos rfl]
      have hne : cs ≠ [] := fun e => by rw [e] at hn; simp at hn
      obtain ⟨t, ht⟩ := join_some hj hc hne
      have hl : cs.flatMap (partsN S x.2) ≠ [] := fun e => by
        rw [e] at ht
        simp [joinL, hu] at ht
      obtain ⟨t', h1, h2⟩ := join_wg hj hl
      have h3 : wg1 S x = 0 := by unfold wg1; rw [if_pos ⟨hx, hj⟩]
      unfold joinN
      rw [if_neg (by simp [hj]), h1, Option.getD_some, h2, flat_wg hu hj, h3, Nat.zero_add]
theorem canonL_wg {S : Sg} {ar : Int → Nat} (hS : S.Ok ar) (hu : ∀ f, S.unit f = none) : ∀ {F : Fo}, RightF S ar F → sumW S (canonL S F) = wgF S F
  | .nil, _ => rfl
  | .node _ _ x l r, h => by
    have hl : (canonL S l).length = lenF l := by rw [canonL_map, List.length_map, kids_len]
    rw [canonL, sumW_cons, canon1_wg hu (by rw [hl]; exact h.1.1) (canonL_can hS h.1.2), canonL_wg hS hu h.1.2, canonL_wg hS hu h.2, wgF]
/-- What a term weighs stays. -/
theorem canonT_wg {S : Sg} {ar : Int → Nat} (hS : S.Ok ar) (hu : ∀ f, S.unit f = none) {t : Tn} (h : RightT S ar t) : wgT S (canonT S t) = wgT S t := by
  have hl : (canonL S t.2).length = lenF t.2 := by rw [canonL_map, List.length_map, kids_len]
  unfold canonT
  rw [canon1_wg hu (by rw [hl]; exact h.1) (canonL_can hS h.2), canonL_wg hS hu h.2]
  rfl
/-- A right term weighs something. -/
theorem wg_pos {S : Sg} {ar : Int → Nat} : ∀ {F : Fo}, RightF S ar F → lenF F ≤ wgF S F
  | .nil, _ => Nat.le_refl _
  | .node _ _ x l r, h => by
    have h1 := wg_pos (S := S) (ar := ar) h.1.2
    have h2 := wg_pos (S := S) (ar := ar) h.2
    have h3 : 1 ≤ wg1 S x + wgF S l := by
      unfold wg1
      split
      · rename_i hh
        have hn := h.1.1
        unfold nodeOk at hn
        rw [if_neg (by simp [hh.1]), hh.2, if_pos rfl] at hn
        omega
      · omega
    rw [lenF, wgF]
    omega
end Go.Proofs.YtfnfbljijkjkjaaGreat
