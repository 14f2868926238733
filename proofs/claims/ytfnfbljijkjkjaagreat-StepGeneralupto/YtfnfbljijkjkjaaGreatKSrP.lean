import Derived.Test.YtfnfbljijkjkjaaGreatKUgD
/- How much a term weighs: its nodes that are no join's; that stays where a term is made canonical without units. -/
namespace Go.Proofs.YtfnfbljijkjkjaaGreat

def wg1 (S : Sg) (x : ByteArray × Int) : Nat := if noName x.1 = true ∧ S.joins x.2 = true then 0 else 1
def wgF (S : Sg) : Fo → Nat
  | .nil => 0
  | .node _ _ x l r => wg1 S x + wgF S l + wgF S r
def wgT (S : Sg) (t : Tn) : Nat := wg1 S t.1 + wgF S t.2
def sumW (S : Sg) (l : List Tn) : Nat := (l.map (wgT S)).sum
theorem sumW_cons (S : Sg) (t : Tn) (l : List Tn) : sumW S (t :: l) = wgT S t + sumW S l := by simp [sumW]
theorem sumW_app (S : Sg) (l m : List Tn) : sumW S (l ++ m) = sumW S l + sumW S m := by simp [sumW]
theorem sumW_perm {S : Sg} {l m : List Tn} (h : List.Perm l m) : sumW S l = sumW S m := (h.map _).sum_nat
theorem wgF_sum (S : Sg) : ∀ F : Fo, wgF S F = sumW S (kidsL F)
  | .nil => rfl
  | .node _ _ x l r => by rw [wgF, kidsL, sumW_cons, wgF_sum S r]; rfl
theorem wgF_mk (S : Sg) (l : List Tn) : wgF S (mkF l) = sumW S l := by rw [wgF_sum, kids_mk]
theorem wg1_le (S : Sg) (x : ByteArray × Int) : wg1 S x ≤ 1 := by unfold wg1; split <;> omega
theorem parts_wg {S : Sg} (hu : ∀ f, S.unit f = none) {f : Int} (hj : S.joins f = true) (t : Tn) : sumW S (partsN S f t) = wgT S t := by
  have h0 : isUn S f t = false := by unfold isUn; rw [hu]
  unfold partsN
  rw [if_neg (by simp [hj]), if_neg (by simp [h0])]
  cases hh : headed f t
  · simp [sumW]
  · rw [if_pos rfl]
    obtain ⟨h1, h2⟩ := headed_iff.1 hh
    have h3 : wg1 S t.1 = 0 := by unfold wg1; rw [if_pos ⟨h1, by rw [h2]; exact hj⟩]
    unfold wgT
    rw [h3, wgF_sum, Nat.zero_add]
theorem flat_wg {S : Sg} (hu : ∀ f, S.unit f = none) {f : Int} (hj : S.joins f = true) : ∀ cs : List Tn, sumW S (cs.flatMap (partsN S f)) = sumW S cs
  | [] => rfl
  | c :: cs => by rw [List.flatMap_cons, sumW_app, sumW_cons, parts_wg hu hj, flat_wg hu hj cs]
theorem join_wg {S : Sg} {f : Int} (hj : S.joins f = true) {l : List Tn} (hne : l ≠ []) : ∃ t, joinL S f l = some t ∧ wgT S t = sumW S l := by
  have h3 : wg1 S (noB, f) = 0 := by unfold wg1; rw [if_pos ⟨noName_noB, hj⟩]
  match l, hne with
  | [t], _ => exact ⟨t, rfl, by simp [sumW]⟩
  | t :: u :: r, _ => exact ⟨_, rfl, by unfold wgT; rw [h3, wgF_mk, sumW_perm (sortN_perm _), Nat.zero_add]⟩
theorem wg_pos_parts {S : Sg} (hu : ∀ f, S.unit f = none) {f : Int} {t : Tn} (h : partsN S f t = []) : headed f t = true ∧ kidsL t.2 = [] := by
  have h0 : isUn S f t = false := by unfold isUn; rw [hu]
  unfold partsN at h
  split at h
  · simp at h
  · rw [if_neg (by simp [h0])] at h
    split at h
    · rename_i hh; exact ⟨hh, h⟩
    · simp at h
theorem canon1_wg {S : Sg} {ar : Int → Nat} (hu : ∀ f, S.unit f = none) {x : ByteArray × Int} {cs : List Tn} (hn : nodeOk S ar x cs.length) (hc : ∀ c ∈ cs, CanT S ar c) : wgT S (canon1 S x cs) = wg1 S x + sumW S cs := by
  unfold canon1
  unfold nodeOk at hn
  cases hx : noName x.1
  · rw [if_pos hx] at hn
    rw [if_pos rfl]
    have h0 : cs = [] := List.length_eq_zero_iff.1 hn.2
    subst h0
    have h1 : wg1 S x = 1 := by unfold wg1; rw [if_neg (by simp [hx])]
    have h2 : wg1 S (x.1, 0) = 1 := by unfold wg1; rw [if_neg (by simp [hx])]
    unfold wgT
    rw [h1, h2]
    rfl
  · rw [if_neg (by simp [hx])] at hn
    rw [if_neg (by decide)]
    cases hj : S.joins x.2
    · rw [if_neg (by decide)]
      have h1 : wg1 S x = 1 := by unfold wg1; rw [if_neg (by simp [hj])]
      have h2 : wg1 S (noB, x.2) = 1 := by unfold wg1; rw [if_neg (by simp [hj])]
      unfold wgT
      rw [h1, h2, wgF_mk]
    · rw [hj, if_pos rfl] at hn
      rw [if_pos rfl]
      have hne : cs ≠ [] := fun e => by rw [e] at hn; simp at hn
      obtain ⟨t, ht⟩ := join_some hj hc hne
      have hl : cs.flatMap (partsN S x.2) ≠ [] := fun e => by
        rw [e] at ht
        simp [joinL, hu] at ht
      obtain ⟨t', h1, h2⟩ := join_wg hj hl
      have h3 : wg1 S x = 0 := by unfold wg1; rw [if_pos ⟨hx, hj⟩]
      unfold joinN
      rw [if_neg (by simp [hj]), h1, Option.getD_some, h2, flat_wg hu hj, h3, Nat.zero_add]
theorem canonL_wg {S : Sg} {ar : Int → Nat} (hS : S.Ok ar) (hu : ∀ f, S.unit f = none) : ∀ {F : Fo}, RightF S ar F → sumW S (canonL S F) = wgF S F
  | .nil, _ => rfl
  | .node _ _ x l r, h => by
    have hl : (canonL S l).length = lenF l := by rw [canonL_map, List.length_map, kids_len]
    rw [canonL, sumW_cons, canon1_wg hu (by rw [hl]; exact h.1.1) (canonL_can hS h.1.2), canonL_wg hS hu h.1.2, canonL_wg hS hu h.2, wgF]
/-- What a term weighs stays. -/
theorem canonT_wg {S : Sg} {ar : Int → Nat} (hS : S.Ok ar) (hu : ∀ f, S.unit f = none) {t : Tn} (h : RightT S ar t) : wgT S (canonT S t) = wgT S t := by
  have hl : (canonL S t.2).length = lenF t.2 := by rw [canonL_map, List.length_map, kids_len]
  unfold canonT
  rw [canon1_wg hu (by rw [hl]; exact h.1) (canonL_can hS h.2), canonL_wg hS hu h.2]
  rfl
/-- A right term weighs something. -/
theorem wg_pos {S : Sg} {ar : Int → Nat} : ∀ {F : Fo}, RightF S ar F → lenF F ≤ wgF S F
  | .nil, _ => Nat.le_refl _
  | .node _ _ x l r, h => by
    have h1 := wg_pos (S := S) (ar := ar) h.1.2
    have h2 := wg_pos (S := S) (ar := ar) h.2
    have h3 : 1 ≤ wg1 S x + wgF S l := by
      unfold wg1
      split
      · rename_i hh
        have hn := h.1.1
        unfold nodeOk at hn
        rw [if_neg (by simp [hh.1]), hh.2, if_pos rfl] at hn
        omega
      · omega
    rw [lenF, wgF]
    omega
end Go.Proofs.YtfnfbljijkjkjaaGreat
/- What stands at the head of a canonical form, where there are no units; free symbols side by side. -/
namespace Go.Proofs.YtfnfbljijkjkjaaGreat

theorem mkF_inj {l m : List Tn} (h : mkF l = mkF m) : l = m := by rw [← kids_mk l, ← kids_mk m, h]
theorem canon_free {S : Sg} {x : ByteArray × Int} {F : Fo} (hx : noName x.1 = true) (hj : S.joins x.2 = false) : canonT S (x, F) = ((noB, x.2), mkF (canonL S F)) := by
  unfold canonT canon1
  dsimp only
  rw [if_neg (by simp [hx]), if_neg (by simp [hj])]
theorem canon_var {S : Sg} {x : ByteArray × Int} {F : Fo} (hx : noName x.1 = false) : canonT S (x, F) = ((x.1, 0), .nil) := by
  unfold canonT canon1
  dsimp only
  rw [if_pos hx]
theorem flat_len2 {S : Sg} {ar : Int → Nat} (hu : ∀ f, S.unit f = none) {f : Int} (hj : S.joins f = true) : ∀ {cs : List Tn}, (∀ c ∈ cs, CanT S ar c) → cs.length ≤ (cs.flatMap (partsN S f)).length
  | [], _ => Nat.le_refl _
  | c :: cs, h => by
    have h1 := flat_len2 hu hj (cs := cs) (fun k hk => h k (List.mem_cons_of_mem _ hk))
    have h2 : partsN S f c ≠ [] := fun e => by
      obtain ⟨u, hu'⟩ := parts_nil hj (h c (by simp)) e
      rw [hu] at hu'
      cases hu'
    have h3 := List.length_pos_iff.2 h2
    rw [List.flatMap_cons, List.length_append, List.length_cons]
    omega
theorem canon_join {S : Sg} {ar : Int → Nat} (hS : S.Ok ar) (hu : ∀ f, S.unit f = none) {x : ByteArray × Int} {F : Fo} (hx : noName x.1 = true) (hj : S.joins x.2 = true) (h : RightT S ar (x, F)) :
    canonT S (x, F) = ((noB, x.2), mkF (sortN ((canonL S F).flatMap (partsN S x.2)))) ∧ 2 ≤ ((canonL S F).flatMap (partsN S x.2)).length := by
  have hl : (canonL S F).length = lenF F := by rw [canonL_map, List.length_map, kids_len]
  have hn : 2 ≤ lenF F := by
    have := h.1
    unfold nodeOk at this
    dsimp only at this
    rwa [if_neg (by simp [hx]), hj, if_pos rfl] at this
  have h2 : (canonL S F).length ≤ ((canonL S F).flatMap (partsN S x.2)).length := flat_len2 hu hj (canonL_can hS h.2)
  have h3 : 2 ≤ ((canonL S F).flatMap (partsN S x.2)).length := by omega
  refine ⟨?_, h3⟩
  unfold canonT canon1 joinN
  dsimp only
  rw [if_neg (by simp [hx]), if_pos hj, if_neg (by simp [hj]), join_many S x.2 h3, Option.getD_some]
/-- The head's symbol stays. -/
theorem canon_head {S : Sg} {ar : Int → Nat} (hS : S.Ok ar) (hu : ∀ f, S.unit f = none) {t : Tn} (hx : noName t.1.1 = true) (h : RightT S ar t) : (canonT S t).1 = (noB, t.1.2) := by
  obtain ⟨x, F⟩ := t
  cases hj : S.joins x.2
  · rw [canon_free hx hj]
  · rw [(canon_join hS hu hx hj h).1]
/-- Other symbols: never the same. -/
theorem head_other {S : Sg} {ar : Int → Nat} (hS : S.Ok ar) (hu : ∀ f, S.unit f = none) {s t : Tn} (hx : noName s.1.1 = true) (hy : noName t.1.1 = true) (hs : RightT S ar s) (ht : RightT S ar t) (hne : s.1.2 ≠ t.1.2) : canonT S s ≠ canonT S t := fun e => by
  have h1 := canon_head hS hu hx hs
  have h2 := canon_head hS hu hy ht
  rw [e, h2] at h1
  exact hne (congrArg Prod.snd h1).symm
/-- The same free symbol: the same, where all arguments are. -/
theorem free_iff {S : Sg} {x y : ByteArray × Int} {F G : Fo} (hx : noName x.1 = true) (hy : noName y.1 = true) (he : x.2 = y.2) (hj : S.joins x.2 = false) : canonT S (x, F) = canonT S (y, G) ↔ canonL S F = canonL S G := by
  rw [canon_free hx hj, canon_free hy (he ▸ hj), ← he]
  constructor
  · intro h
    exact mkF_inj (Prod.mk.inj h).2
  · intro h
    rw [h]
end Go.Proofs.YtfnfbljijkjkjaaGreat
/- A variable that stands within a term weighs less than it, whatever is put for the variables. -/
namespace Go.Proofs.YtfnfbljijkjkjaaGreat

/-- What stands for a node. -/
def sb1 (g : ByteArray → Tn) (x : ByteArray × Int) (F : Fo) : Tn := if noName x.1 = true then (x, F) else g x.1
def sbF (g : ByteArray → Tn) : Fo → Fo
  | .nil => .nil
  | .node B O x l r => .node B O (sb1 g x (sbF g l)).1 (sb1 g x (sbF g l)).2 (sbF g r)
def sbN (g : ByteArray → Tn) (t : Tn) : Tn := sb1 g t.1 (sbF g t.2)
theorem right_pos {S : Sg} {ar : Int → Nat} {t : Tn} (h : RightT S ar t) : 1 ≤ wgT S t := by
  have h1 := wg_pos (S := S) (ar := ar) h.2
  unfold wgT wg1
  split
  · rename_i hh
    have hn := h.1
    unfold nodeOk at hn
    rw [if_neg (by simp [hh.1]), hh.2, if_pos rfl] at hn
    omega
  · omega
theorem sb_pos {S : Sg} {ar : Int → Nat} {g : ByteArray → Tn} (hg : ∀ s, noName s = false → RightT S ar (g s)) : ∀ {F : Fo}, RightF S ar F → lenF F ≤ wgF S (sbF g F)
  | .nil, _ => Nat.le_refl _
  | .node _ _ x l r, h => by
    have h1 := sb_pos hg h.1.2
    have h2 := sb_pos hg h.2
    have h3 : 1 ≤ wgT S (sb1 g x (sbF g l)) := by
      unfold sb1
      cases hx : noName x.1
      · rw [if_neg (by decide)]; exact right_pos (hg _ hx)
      · rw [if_pos rfl]
        unfold wgT wg1
        dsimp only
        split
        · rename_i hh
          have hn := h.1.1
          unfold nodeOk at hn
          rw [if_neg (by simp [hx]), hh.2, if_pos rfl] at hn
          omega
        · omega
    rw [lenF, sbF, wgF]
    unfold wgT at h3
    omega
theorem occF {S : Sg} {ar : Int → Nat} {g : ByteArray → Tn} {nm : ByteArray} (hg : ∀ s, noName s = false → RightT S ar (g s)) : ∀ {F : Fo}, RightF S ar F → hasF nm F = true → wgT S (g nm) + lenF F ≤ wgF S (sbF g F) + 1
  | .nil, _, h => by simp [hasF] at h
  | .node B O x l r, hR, h => by
    have h2 := sb_pos hg hR.2
    have hkid : 1 ≤ wgT S (sb1 g x (sbF g l)) := by
      have := sb_pos hg (F := .node B O x l .nil) ⟨hR.1, trivial⟩
      rw [lenF, sbF, wgF] at this
      unfold wgT
      simp only [lenF, sbF, wgF] at this
      omega
    rw [lenF, sbF, wgF]
    have hw : wg1 S (sb1 g x (sbF g l)).1 + wgF S (sb1 g x (sbF g l)).2 = wgT S (sb1 g x (sbF g l)) := rfl
    rw [hw]
    rw [hasF] at h
    simp only [Bool.or_eq_true] at h
    rcases h with (h | h) | h
    · have hx : noName x.1 = false ∧ x.1 = nm := by
        unfold hasN at h
        simp only [Bool.and_eq_true, Bool.not_eq_true', beq_iff_eq] at h
        exact ⟨h.1, bytes_eq (by rw [← ByteArray.toList_eq, ← ByteArray.toList_eq]; exact h.2)⟩
      have e : sb1 g x (sbF g l) = g nm := by unfold sb1; rw [if_neg (by simp [hx.1]), hx.2]
      rw [e]
      omega
    · have hx : noName x.1 = true := by
        cases hx : noName x.1
        · have hn := hR.1.1
          unfold nodeOk at hn
          rw [if_pos hx] at hn
          rw [len_nil hn.2] at h
          simp [hasF] at h
        · rfl
      have ih := occF hg hR.1.2 h
      have hl : 1 ≤ lenF l := by
        cases l with
        | nil => simp [hasF] at h
        | node _ _ _ _ _ => simp [lenF]
      have e : sb1 g x (sbF g l) = (x, sbF g l) := by unfold sb1; rw [if_pos hx]
      rw [e]
      have : wgT S (g nm) ≤ wgT S (x, sbF g l) := by
        show _ ≤ wg1 S x + wgF S (sbF g l)
        have hn := hR.1.1
        unfold nodeOk at hn
        rw [if_neg (by simp [hx])] at hn
        cases hj : S.joins x.2
        · have : wg1 S x = 1 := by unfold wg1; rw [if_neg (by simp [hj])]
          omega
        · rw [hj, if_pos rfl] at hn
          omega
      omega
    · have ih := occF hg hR.2 h
      omega
/-- A variable within a term that is none: they never become the same. -/
theorem occ_less {S : Sg} {ar : Int → Nat} {g : ByteArray → Tn} {nm : ByteArray} (hg : ∀ s, noName s = false → RightT S ar (g s)) {t : Tn} (h : RightT S ar t) (hx : noName t.1.1 = true) (hh : hasF nm t.2 = true) : wgT S (g nm) < wgT S (sbN g t) := by
  have h1 := occF hg h.2 hh
  have hl : 1 ≤ lenF t.2 := by
    cases hc : t.2 with
    | nil => rw [hc] at hh; simp [hasF] at hh
    | node _ _ _ _ _ => simp [lenF]
  have e : sbN g t = (t.1, sbF g t.2) := by unfold sbN sb1; rw [if_pos hx]
  rw [e]
  have hn := h.1
  unfold nodeOk at hn
  rw [if_neg (by simp [hx])] at hn
  show _ < wg1 S t.1 + wgF S (sbF g t.2)
  cases hj : S.joins t.1.2
  · have : wg1 S t.1 = 1 := by unfold wg1; rw [if_neg (by simp [hj])]
    omega
  · rw [hj, if_pos rfl] at hn
    omega
end Go.Proofs.YtfnfbljijkjkjaaGreat
