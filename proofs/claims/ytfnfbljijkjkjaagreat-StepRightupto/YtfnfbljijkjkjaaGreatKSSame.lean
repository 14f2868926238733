import Derived.Test.YtfnfbljijkjkjaaGreatKSRApp
/- Plain: of binds with unlike names, and of right terms, the program puts in what the document does. -/
namespace Go.Proofs.YtfnfbljijkjkjaaGreat
open Go.RowKit

theorem growF_nn (bs : List Bn) : ∀ (F : Fo) (r : Int), (nodesF (pinF bs F) : Int) ≤ r → 0 ≤ growF bs F r
  | .nil, r, h => by simpa [growF, pinF, nodesF] using h
  | .node _ _ x l s, r, h => by
    unfold pinF at h
    unfold growF
    by_cases hn : noName x.1 = true
    · rw [if_pos hn] at h
      simp only [nodesF] at h
      rw [if_neg (by omega), if_pos hn]
      have h1 := growF_nn bs l (r - 1) (by omega)
      have e1 := growF_eq bs l (r - 1) h1
      exact growF_nn bs s _ (by omega)
    · rw [if_neg hn] at h
      simp only [nodesF] at h
      rw [if_neg (by omega), if_neg hn, szB_eq]
      exact growF_nn bs s _ (by omega)
theorem growN_iff (bs : List Bn) (x : ByteArray × Int) (l : Fo) (r : Int) : 0 ≤ growN bs x l r ↔ ((nodesF (pinN bs x l).2 + 1 : Nat) : Int) ≤ r := by
  constructor
  · intro h
    have := growN_eq bs x l r h
    omega
  · intro h
    unfold pinN at h
    unfold growN
    by_cases hn : noName x.1 = true
    · rw [if_pos hn] at h ⊢
      exact growF_nn bs l _ (by simp only at h; omega)
    · rw [if_neg hn] at h ⊢
      rw [szB_eq]
      omega
theorem getN_right {S : Sg} {ar : Int → Nat} {bs : List Bn} (hb : ∀ b ∈ bs, RightT S ar b.2) {s : ByteArray} (hs : noName s = false) : RightT S ar (getN bs s) := by
  unfold getN
  cases h : getB bs s with
  | none =>
    refine ⟨?_, trivial⟩
    unfold nodeOk
    rw [if_pos hs]
    exact ⟨rfl, rfl⟩
  | some t =>
    unfold getB at h
    cases hf : bs.find? (fun b => decide (b.1 = s)) with
    | none => rw [hf] at h; cases h
    | some b =>
      rw [hf] at h
      have h1 : b.2 = t := Option.some.inj h
      have h2 := hb b (List.mem_of_find?_eq_some hf)
      rw [h1] at h2
      exact h2
theorem pinF_right {S : Sg} {ar : Int → Nat} {bs : List Bn} (hb : ∀ b ∈ bs, RightT S ar b.2) : ∀ F : Fo, RightF S ar F → RightF S ar (pinF bs F)
  | .nil, _ => trivial
  | .node B O x l r, h => by
    obtain ⟨⟨h1, h2⟩, h3⟩ := h
    unfold pinF
    by_cases hn : noName x.1 = true
    · rw [if_pos hn]
      exact ⟨⟨by rw [pinF_len]; exact h1, pinF_right hb l h2⟩, pinF_right hb r h3⟩
    · rw [if_neg hn]
      have := getN_right hb (s := x.1) (by simpa using hn)
      exact ⟨⟨this.1, this.2⟩, pinF_right hb r h3⟩
/-- What is put in right terms' places makes right terms. -/
theorem pinN_right {S : Sg} {ar : Int → Nat} {bs : List Bn} (hb : ∀ b ∈ bs, RightT S ar b.2) (x : ByteArray × Int) (l : Fo) (h : RightT S ar (x, l)) : RightT S ar (pinN bs x l) := by
  unfold pinN
  by_cases hn : noName x.1 = true
  · rw [if_pos hn]
    exact ⟨by show nodeOk S ar x (lenF (pinF bs l)); rw [pinF_len]; exact h.1, pinF_right hb l h.2⟩
  · rw [if_neg hn]
    exact getN_right hb (by simpa using hn)

end Go.Proofs.YtfnfbljijkjkjaaGreat
