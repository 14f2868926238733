/- Counts that fit a bag, and the part that they name. -/
import Derived.Test.YtlbmamkkbpjafabBTal
import Derived.Test.YtlbmamkkbpjafabBBackP
namespace Go.Proofs.Ytlbmamkkbpjafab
open Go.RowKit Go.Deep

/-- As many counts as items, each from 0 to the item's own. -/
structure Fits (l : List It) (cs : List Int) : Prop where
  len : cs.length = l.length
  at_ : ∀ (i : Nat) (y : It) (x : Int), l[i]? = some y → cs[i]? = some x → 0 ≤ x ∧ x ≤ y.2
theorem fits_zero {l : List It} (hp : ∀ y ∈ l, 1 ≤ y.2) : Fits l (List.replicate l.length 0) := ⟨List.length_replicate, fun i y x hy hx => by
  have h1 := hp y (List.mem_of_getElem? hy)
  have h2 := List.eq_of_mem_replicate (List.mem_of_getElem? hx)
  omega⟩
theorem fits_rise {l : List It} {cs : List Int} (hp : ∀ y ∈ l, 1 ≤ y.2) (hf : Fits l cs) : ∀ k, k ≤ cs.length → Fits l (riseAt l cs k).1
  | 0, _ => by
    show Fits l (List.replicate cs.length 0)
    rw [hf.len]
    exact fits_zero hp
  | k + 1, hk => by
    have hkl : k < l.length := by have := hf.len; omega
    rw [riseAt_succ hkl hk]
    split
    · rename_i hlt
      refine ⟨?_, fun i y x hy hx => ?_⟩
      · have h := riseAt_len l cs (k + 1) hk
        rw [riseAt_succ hkl hk, if_pos hlt] at h
        rw [h, hf.len]
      · have h1 := hp y (List.mem_of_getElem? hy)
        have htk : (cs.take k).length = k := by rw [List.length_take]; omega
        by_cases h2 : i < k
        · rw [List.getElem?_append_left (by omega), List.getElem?_take_of_lt h2] at hx
          exact hf.at_ i y x hy hx
        · rw [List.getElem?_append_right (by omega), htk] at hx
          by_cases h3 : i = k
          · subst h3
            rw [Nat.sub_self, List.getElem?_cons_zero] at hx
            rw [List.getElem?_eq_getElem hkl] at hy
            have h4 := hf.at_ i l[i] cs[i] (List.getElem?_eq_getElem hkl) (List.getElem?_eq_getElem hk)
            have h5 := Option.some.inj hx
            have h6 := Option.some.inj hy
            subst h6
            omega
          · rw [show i - k = (i - k - 1) + 1 by omega, List.getElem?_cons_succ] at hx
            have h4 := List.eq_of_mem_replicate (List.mem_of_getElem? hx)
            omega
    · exact fits_rise hp hf k (by omega)
theorem fits_part {l : List It} {cs : List Int} (hl : Bg l) (hf : Fits l cs) : ∀ y ∈ l, ptF l cs y ≤ y.2 := fun y hy => by
  obtain ⟨i, hi, rfl⟩ := List.getElem_of_mem hy
  have hic : i < cs.length := by rw [hf.len]; exact hi
  rw [ptF_at hl.srt hf.len i hi]
  exact (hf.at_ i _ _ (List.getElem?_eq_getElem hi) (List.getElem?_eq_getElem hic)).2
theorem part_bg {l : List It} {cs : List Int} (hl : Bg l) (hf : Fits l cs) : Bg (partP l cs) := keepP_bg _ hl (fits_part hl hf)
theorem part_within {l : List It} {cs : List Int} (hl : Bg l) (hf : Fits l cs) : withinP (partP l cs) l = true := within_all.2 fun z hz => by
  obtain ⟨y, hy, h0, rfl⟩ := keepP_mem hz
  obtain ⟨i, hi, rfl⟩ := List.getElem_of_mem hy
  have h1 := (cntK_nth hl.srt i hi).2.2
  have h2 := fits_part hl hf _ hy
  show ptF l cs l[i] ≤ cntK l[i].1.1 l
  omega
end Go.Proofs.Ytlbmamkkbpjafab
