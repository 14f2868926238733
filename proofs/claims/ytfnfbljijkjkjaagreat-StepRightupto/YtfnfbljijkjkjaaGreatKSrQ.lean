import Derived.Test.YtfnfbljijkjkjaaGreatKSrP
/- What stands at the head of a canonical form, where there are no units; free symbols side by side. -/
namespace Go.Proofs.YtfnfbljijkjkjaaGreat

theorem mkF_inj {l m : List Tn} (h : mkF l = mkF m) : l = m := by rw [← kids_mk l, ← kids_mk m, h]
theorem canon_free {S : Sg} {x : ByteArray × Int} {F : Fo} (hx : noName x.1 = true) (hj : S.joins x.2 = false) : canonT S (x, F) = ((noB, x.2), mkF (canonL S F)) := by
  unfold canonT canon1
  dsimp only
  rw [if_neg (by simp [hx]), if_neg (by simp [hj])]
theorem canon_var {S : Sg} {x : ByteArray × Int} {F : Fo} (hx : noName x.1 = false) : canonT S (x, F) = ((x.1, 0), .nil) := by
  unfold canonT canon1
  dsimp only
  rw [if_pos hx]
theorem flat_len2 {S : Sg} {ar : Int → Nat} (hu : ∀ f, S.unit f = none) {f : Int} (hj : S.joins f = true) : ∀ {cs : List Tn}, (∀ c ∈ cs, CanT S ar c) → cs.length ≤ (cs.flatMap (partsN S f)).length
  | [], _ => Nat.le_refl _
  | c :: cs, h => by
    have h1 := flat_len2 hu hj (cs := cs) (fun k hk => h k (List.mem_cons_of_mem _ hk))
    have h2 : partsN S f c ≠ [] := fun e => by
      obtain ⟨u, hu'⟩ := parts_nil hj (h c (by simp)) e
      rw [hu] at hu'
      cases hu'
    have h3 := List.length_pos_iff.2 h2
    rw [List.flatMap_cons, List.length_append, List.length_cons]
    omega
theorem canon_join {S : Sg} {ar : Int → Nat} (hS : S.Ok ar) (hu : ∀ f, S.unit f = none) {x : ByteArray × Int} {F : Fo} (hx : noName x.1 = true) (hj : S.joins x.2 = true) (h : RightT S ar (x, F)) :
    canonT S (x, F) = ((noB, x.2), mkF (sortN ((canonL S F).flatMap (partsN S x.2)))) ∧ 2 ≤ ((canonL S F).flatMap (partsN S x.2)).length := by
  have hl : (canonL S F).length = lenF F := by rw [canonL_map, List.length_map, kids_len]
  have hn : 2 ≤ lenF F := by
    have := h.1
    unfold nodeOk at this
    dsimp only at this
    rwa [if_neg (by simp [hx]), hj, if_pos rfl] at this
  have h2 : (canonL S F).length ≤ ((canonL S F).flatMap (partsN S x.2)).length := flat_len2 hu hj (canonL_can hS h.2)
  have h3 : 2 ≤ ((canonL S F).flatMap (partsN S x.2)).length := by omega
  refine ⟨?_, h3⟩
  unfold canonT canon1 joinN
  dsimp only
  rw [if_neg (by simp [hx]), if_pos hj, if_neg (by simp [hj]), join_many S x.2 h3, Option.getD_some]
/-- The head's symbol stays. -/
theorem canon_head {S : Sg} {ar : Int → Nat} (hS : S.Ok ar) (hu : ∀ f, S.unit f = none) {t : Tn} (hx : noName t.1.1 = true) (h : RightT S ar t) : (canonT S t).1 = (noB, t.1.2) := by
  obtain ⟨x, F⟩ := t
  cases hj : S.joins x.2
  · rw [canon_free hx hj]
  · rw [(canon_join hS hu hx hj h).1]
/-- Other symbols: never the same. -/
theorem head_other {S : Sg} {ar : Int → Nat} (hS : S.Ok ar) (hu : ∀ f, S.unit f = none) {s t : Tn} (hx : noName s.1.1 = true) (hy : noName t.1.1 = true) (hs : RightT S ar s) (ht : RightT S ar t) (hne : s.1.2 ≠ t.1.2) : canonT S s ≠ canonT S t := fun e => by
  have h1 := canon_head hS hu hx hs
  have h2 := canon_head hS hu hy ht
  rw [e, h2] at h1
  exact hne (congrArg Prod.snd h1).symm
/-- The same free symbol: the same, where all arguments are. -/
theorem free_iff {S : Sg} {x y : ByteArray × Int} {F G : Fo} (hx : noName x.1 = true) (hy : noName y.1 = true) (he : x.2 = y.2) (hj : S.joins x.2 = false) : canonT S (x, F) = canonT S (y, G) ↔ canonL S F = canonL S G := by
  rw [canon_free hx hj, canon_free hy (he ▸ hj), ← he]
  constructor
  · intro h
    exact mkF_inj (Prod.mk.inj h).2
  · intro h
    rw [h]
end Go.Proofs.YtfnfbljijkjkjaaGreat
