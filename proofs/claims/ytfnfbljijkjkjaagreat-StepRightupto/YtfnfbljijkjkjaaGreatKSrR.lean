import Derived.Test.YtfnfbljijkjkjaaGreatKSrQ
/- A variable that stands within a term weighs less than it, whatever is put for the variables. -/
namespace Go.Proofs.YtfnfbljijkjkjaaGreat

/-- What stands for a node. -/
def sb1 (g : ByteArray → Tn) (x : ByteArray × Int) (F : Fo) : Tn := if noName x.1 = true then (x, F) else g x.1
def sbF (g : ByteArray → Tn) : Fo → Fo
  | .nil => .nil
  | .node B O x l r => .node B O (sb1 g x (sbF g l)).1 (sb1 g x (sbF g l)).2 (sbF g r)
def sbN (g : ByteArray → Tn) (t : Tn) : Tn := sb1 g t.1 (sbF g t.2)
theorem right_pos {S : Sg} {ar : Int → Nat} {t : Tn} (h : RightT S ar t) : 1 ≤ wgT S t := by
  have h1 := wg_pos (S := S) (ar := ar) h.2
  unfold wgT wg1
  split
  · rename_i hh
    have hn := h.1
    unfold nodeOk at hn
    rw [if_neg (by simp [hh.1]), hh.2, if_pos rfl] at hn
    omega
  · omega
theorem sb_pos {S : Sg} {ar : Int → Nat} {g : ByteArray → Tn} (hg : ∀ s, noName s = false → RightT S ar (g s)) : ∀ {F : Fo}, RightF S ar F → lenF F ≤ wgF S (sbF g F)
  | .nil, _ => Nat.le_refl _
  | .node _ _ x l r, h => by
    have h1 := sb_pos hg h.1.2
    have h2 := sb_pos hg h.2
    have h3 : 1 ≤ wgT S (sb1 g x (sbF g l)) := by
      unfold sb1
      cases hx : noName x.1
      · rw [if_neg (by decide)]; exact right_pos (hg _ hx)
      · rw [if_pos rfl]
        unfold wgT wg1
        dsimp only
        split
        · rename_i hh
          have hn := h.1.1
          unfold nodeOk at hn
          rw [if_neg (by simp [hx]), hh.2, if_pos rfl] at hn
          omega
        · omega
    rw [lenF, sbF, wgF]
    unfold wgT at h3
    omega
theorem occF {S : Sg} {ar : Int → Nat} {g : ByteArray → Tn} {nm : ByteArray} (hg : ∀ s, noName s = false → RightT S ar (g s)) : ∀ {F : Fo}, RightF S ar F → hasF nm F = true → wgT S (g nm) + lenF F ≤ wgF S (sbF g F) + 1
  | .nil, _, h => by simp [hasF] at h
  | .node B O x l r, hR, h => by
    have h2 := sb_pos hg hR.2
    have hkid : 1 ≤ wgT S (sb1 g x (sbF g l)) := by
      have := sb_pos hg (F := .node B O x l .nil) ⟨hR.1, trivial⟩
      rw [lenF, sbF, wgF] at this
      unfold wgT
      simp only [lenF, sbF, wgF] at this
      omega
    rw [lenF, sbF, wgF]
    have hw : wg1 S (sb1 g x (sbF g l)).1 + wgF S (sb1 g x (sbF g l)).2 = wgT S (sb1 g x (sbF g l)) := rfl
    rw [hw]
    rw [hasF] at h
    simp only [Bool.or_eq_true] at h
    rcases h with (h | h) | h
    · have hx : noName x.1 = false ∧ x.1 = nm := by
        unfold hasN at h
        simp only [Bool.and_eq_true, Bool.not_eq_true', beq_iff_eq] at h
        exact ⟨h.1, bytes_eq (by rw [← ByteArray.toList_eq, ← ByteArray.toList_eq]; exact h.2)⟩
      have e : sb1 g x (sbF g l) = g nm := by unfold sb1; rw [if_neg (by simp [hx.1]), hx.2]
      rw [e]
      omega
    · have hx : noName x.1 = true := by
        cases hx : noName x.1
        · have hn := hR.1.1
          unfold nodeOk at hn
          rw [if_pos hx] at hn
          rw [len_nil hn.2] at h
          simp [hasF] at h
        · rfl
      have ih := occF hg hR.1.2 h
      have hl : 1 ≤ lenF l := by
        cases l with
        | nil => simp [hasF] at h
        | node _ _ _ _ _ => simp [lenF]
      have e : sb1 g x (sbF g l) = (x, sbF g l) := by unfold sb1; rw [if_pos hx]
      rw [e]
      have : wgT S (g nm) ≤ wgT S (x, sbF g l) := by
        show _ ≤ wg1 S x + wgF S (sbF g l)
        have hn := hR.1.1
        unfold nodeOk at hn
        rw [if_neg (by simp [hx])] at hn
        cases hj : S.joins x.2
        · have : wg1 S x = 1 := by unfold wg1; rw [if_neg (by simp [hj])]
          omega
        · rw [hj, if_pos rfl] at hn
          omega
      omega
    · have ih := occF hg hR.2 h
      omega
/-- A variable within a term that is none: they never become the same. -/
theorem occ_less {S : Sg} {ar : Int → Nat} {g : ByteArray → Tn} {nm : ByteArray} (hg : ∀ s, noName s = false → RightT S ar (g s)) {t : Tn} (h : RightT S ar t) (hx : noName t.1.1 = true) (hh : hasF nm t.2 = true) : wgT S (g nm) < wgT S (sbN g t) := by
  have h1 := occF hg h.2 hh
  have hl : 1 ≤ lenF t.2 := by
    cases hc : t.2 with
    | nil => rw [hc] at hh; simp [hasF] at hh
    | node _ _ _ _ _ => simp [lenF]
  have e : sbN g t = (t.1, sbF g t.2) := by unfold sbN sb1; rw [if_pos hx]
  rw [e]
  have hn := h.1
  unfold nodeOk at hn
  rw [if_neg (by simp [hx])] at hn
  show _ < wg1 S t.1 + wgF S (sbF g t.2)
  cases hj : S.joins t.1.2
  · have : wg1 S t.1 = 1 := by unfold wg1; rw [if_neg (by simp [hj])]
    omega
  · rw [hj, if_pos rfl] at hn
    omega
end Go.Proofs.YtfnfbljijkjkjaaGreat
