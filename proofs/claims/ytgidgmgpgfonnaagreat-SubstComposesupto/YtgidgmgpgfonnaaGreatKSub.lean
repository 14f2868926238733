import Derived.Test.YtgidgmgpgfonnaaGreatKSRComp
/- Plain: what is put into a term, and canonical forms: a canonical form does for its term; no more nodes; first one, then another is their composition. -/
namespace Go.Proofs.YtgidgmgpgfonnaaGreat
open Go.RowKit

/-- Terms in which others stand for variables. -/
def subF (g : ByteArray → Tn) : Fo → Fo
  | .nil => .nil
  | .node B O x l r => if noName x.1 = true then .node B O x (subF g l) (subF g r) else .node B O (g x.1).1 (g x.1).2 (subF g r)
def subN (g : ByteArray → Tn) (t : Tn) : Tn := if noName t.1.1 = true then (t.1, subF g t.2) else g t.1.1
theorem pinF_sub (bs : List Bn) : ∀ F : Fo, pinF bs F = subF (getN bs) F
  | .nil => rfl
  | .node _ _ x l r => by unfold pinF subF; rw [pinF_sub bs l, pinF_sub bs r]
theorem pinN_sub (bs : List Bn) (t : Tn) : pinN bs t.1 t.2 = subN (getN bs) t := by
  unfold pinN subN
  rw [pinF_sub]
theorem kids_sub (g : ByteArray → Tn) : ∀ F : Fo, kidsL (subF g F) = (kidsL F).map (subN g)
  | .nil => rfl
  | .node _ _ x l r => by
    unfold subF
    by_cases h : noName x.1 = true
    · rw [if_pos h]
      simp only [kidsL, List.map_cons]
      rw [kids_sub g r]
      unfold subN
      rw [if_pos h]
    · rw [if_neg h]
      simp only [kidsL, List.map_cons]
      rw [kids_sub g r]
      unfold subN
      rw [if_neg h]
theorem subF_len (g : ByteArray → Tn) (F : Fo) : lenF (subF g F) = lenF F := by rw [← kids_len, kids_sub, List.length_map, kids_len]
/-- What stands for variables is right. -/
def RightG (S : Sg) (ar : Int → Nat) (g : ByteArray → Tn) : Prop := ∀ s, noName s = false → RightT S ar (g s)
theorem getN_rightG {S : Sg} {ar : Int → Nat} {bs : List Bn} (hb : ∀ b ∈ bs, RightT S ar b.2) : RightG S ar (getN bs) := fun _ hs => getN_right hb hs
theorem kid_less {F : Fo} {k : Tn} (h : k ∈ kidsL F) : nodesF k.2 < nodesF F := by
  rw [nodes_sizes F]
  have : ∀ l : List Tn, k ∈ l → nodesF k.2 < sizes l := fun l => by
    induction l with
    | nil => intro h; cases h
    | cons t r ih =>
      intro h
      rw [sizes_cons]
      rcases List.mem_cons.1 h with rfl | h
      · unfold sizeT; omega
      · have := ih h; omega
  exact this _ h
theorem subN_right {S : Sg} {ar : Int → Nat} {g : ByteArray → Tn} (hg : RightG S ar g) : ∀ (n : Nat) (t : Tn), nodesF t.2 ≤ n → RightT S ar t → RightT S ar (subN g t) := by
  intro n
  induction n using Nat.strongRecOn with
  | _ n ih =>
    intro t hn h
    unfold subN
    by_cases hx : noName t.1.1 = true
    · rw [if_pos hx]
      refine ⟨by show nodeOk S ar t.1 (lenF (subF g t.2)); rw [subF_len]; exact h.1, right_kids.2 ?_⟩
      show ∀ k ∈ kidsL (subF g t.2), _
      rw [kids_sub]
      intro k hk
      obtain ⟨k', hk', rfl⟩ := List.mem_map.1 hk
      have := kid_less hk'
      exact ih (nodesF k'.2) (by omega) k' (Nat.le_refl _) (right_kids.1 h.2 k' hk')
    · rw [if_neg hx]
      exact hg _ (by simpa using hx)
theorem subG_right {S : Sg} {ar : Int → Nat} {g : ByteArray → Tn} (hg : RightG S ar g) {t : Tn} (h : RightT S ar t) : RightT S ar (subN g t) := subN_right hg _ t (Nat.le_refl _) h
/-- The parts of a canonical term, each with what stands for its variables, are the parts of the term with it. -/
theorem sub_parts {S : Sg} {ar : Int → Nat} (hS : S.Ok ar) {g : ByteArray → Tn} (hg : RightG S ar g) {f : Int} (hj : S.joins f = true) {c : Tn} (hc : CanT S ar c) : List.Perm (pc S f (subN g c)) ((partsN S f c).flatMap fun p => pc S f (subN g p)) := by
  unfold partsN
  rw [if_neg (by simp [hj])]
  by_cases h1 : isUn S f c = true
  · rw [if_pos h1]
    obtain ⟨u, hu, rfl⟩ := isUn_some h1
    have e : subN g (constT u) = constT u := by
      unfold subN constT
      rw [if_pos noName_noB]
      rfl
    rw [e, pc_const hS hj hu]
    exact List.Perm.refl _
  · rw [if_neg h1]
    by_cases h2 : headed f c = true
    · rw [if_pos h2]
      obtain ⟨h3, h4⟩ := headed_iff.1 h2
      have e : subN g c = (c.1, subF g c.2) := by unfold subN; rw [if_pos h3]
      have hr := subG_right hg (right_of_can hc)
      rw [e] at hr ⊢
      have := canonT_parts hS (t := (c.1, subF g c.2)) (by show S.joins c.1.2 = true; rw [h4]; exact hj) h3 hr
      rw [show ((c.1, subF g c.2) : Tn).1.2 = f from h4] at this
      refine this.trans ?_
      show List.Perm ((kidsL (subF g c.2)).flatMap (pc S f)) _
      rw [kids_sub, List.flatMap_map]
    · rw [if_neg h2]
      simp
theorem flatMap_perm {α β : Type} {f g : α → List β} : ∀ {l : List α}, (∀ a ∈ l, List.Perm (f a) (g a)) → List.Perm (l.flatMap f) (l.flatMap g)
  | [], _ => List.Perm.refl _
  | a :: r, h => by
    rw [List.flatMap_cons, List.flatMap_cons]
    exact (h a (by simp)).append (flatMap_perm fun b hb => h b (by simp [hb]))
/-- A canonical form does for its term. -/
theorem sub_canon_all {S : Sg} {ar : Int → Nat} (hS : S.Ok ar) {g : ByteArray → Tn} (hg : RightG S ar g) : ∀ (n : Nat) (t : Tn), nodesF t.2 ≤ n → RightT S ar t → canonT S (subN g (canonT S t)) = canonT S (subN g t) := by
  intro n
  induction n using Nat.strongRecOn with
  | _ n ih =>
    intro t hn h
    have IH : ∀ k ∈ kidsL t.2, canonT S (subN g (canonT S k)) = canonT S (subN g k) := fun k hk => by
      have := kid_less hk
      exact ih (nodesF k.2) (by omega) k (Nat.le_refl _) (right_kids.1 h.2 k hk)
    by_cases hx : noName t.1.1 = true
    · by_cases hj : S.joins t.1.2 = true
      · have hc := canonT_can hS h
        refine (eq_iff hS hj (subG_right hg (right_of_can hc)) (subG_right hg h)).2 ?_
        refine (sub_parts hS hg hj hc).trans ?_
        have e : subN g t = (t.1, subF g t.2) := by unfold subN; rw [if_pos hx]
        have hr := subG_right hg h
        rw [e] at hr ⊢
        have h1 := canonT_parts hS (t := (t.1, subF g t.2)) hj hx hr
        refine List.Perm.trans ?_ h1.symm
        show List.Perm _ ((kidsL (subF g t.2)).flatMap (pc S t.1.2))
        rw [kids_sub, List.flatMap_map]
        have h2 := canonT_parts hS hj hx h
        refine (h2.flatMap_right (fun p => pc S t.1.2 (subN g p))).trans ?_
        rw [List.flatMap_assoc]
        refine flatMap_perm fun k hk => ?_
        have h3 := sub_parts hS hg hj (canonT_can hS (right_kids.1 h.2 k hk))
        refine (show List.Perm ((pc S t.1.2 k).flatMap fun p => pc S t.1.2 (subN g p)) _ from h3.symm).trans ?_
        unfold pc
        rw [IH k hk]
      · have hj' : S.joins t.1.2 = false := by simpa using hj
        rw [canon_free hx hj']
        have e1 : subN g ((noB, t.1.2), mkF ((kidsL t.2).map (canonT S))) = ((noB, t.1.2), subF g (mkF ((kidsL t.2).map (canonT S)))) := by
          unfold subN
          rw [if_pos noName_noB]
        have e2 : subN g t = (t.1, subF g t.2) := by unfold subN; rw [if_pos hx]
        rw [e1, e2, canon_free (t := ((noB, t.1.2), subF g (mkF ((kidsL t.2).map (canonT S))))) noName_noB hj', canon_free (t := (t.1, subF g t.2)) hx hj']
        show ((noB, t.1.2), mkF ((kidsL (subF g (mkF _))).map (canonT S))) = ((noB, t.1.2), mkF ((kidsL (subF g t.2)).map (canonT S)))
        rw [kids_sub, kids_sub, kids_mk, List.map_map, List.map_map, List.map_map]
        congr 2
        exact List.map_congr_left fun k hk => IH k hk
    · have hx' : noName t.1.1 = false := by simpa using hx
      have e1 : canonT S t = ((t.1.1, 0), .nil) := by unfold canonT canon1; rw [if_pos hx']
      rw [e1]
      unfold subN
      rw [if_neg hx, if_neg (by simpa using hx')]
theorem sub_canon {S : Sg} {ar : Int → Nat} (hS : S.Ok ar) {g : ByteArray → Tn} (hg : RightG S ar g) {t : Tn} (h : RightT S ar t) : canonT S (subN g (canonT S t)) = canonT S (subN g t) := sub_canon_all hS hg _ t (Nat.le_refl _) h
/-- What is equal, put in, makes what is equal. -/
theorem sub_same_all {S : Sg} {ar : Int → Nat} {g k : ByteArray → Tn} (he : ∀ s, noName s = false → canonT S (g s) = canonT S (k s)) : ∀ (n : Nat) (t : Tn), nodesF t.2 ≤ n → RightT S ar t → canonT S (subN g t) = canonT S (subN k t) := by
  intro n
  induction n using Nat.strongRecOn with
  | _ n ih =>
    intro t hn h
    unfold subN
    by_cases hx : noName t.1.1 = true
    · rw [if_pos hx, if_pos hx]
      unfold canonT
      dsimp only
      congr 1
      rw [canonL_map, canonL_map, kids_sub, kids_sub, List.map_map, List.map_map]
      refine List.map_congr_left fun c hc => ?_
      have := kid_less hc
      exact ih (nodesF c.2) (by omega) c (Nat.le_refl _) (right_kids.1 h.2 c hc)
    · rw [if_neg hx, if_neg hx]
      exact he _ (by simpa using hx)
theorem sub_same {S : Sg} {ar : Int → Nat} {g k : ByteArray → Tn} (he : ∀ s, noName s = false → canonT S (g s) = canonT S (k s)) {t : Tn} (h : RightT S ar t) : canonT S (subN g t) = canonT S (subN k t) := sub_same_all he _ t (Nat.le_refl _) h
/-- First one, then the other. -/
theorem subF_subF (g k : ByteArray → Tn) : ∀ F : Fo, kidsL (subF k (subF g F)) = (kidsL F).map fun t => subN k (subN g t) := fun F => by rw [kids_sub, kids_sub, List.map_map]; rfl
theorem sub_sub_all {S : Sg} {g k : ByteArray → Tn} : ∀ (n : Nat) (t : Tn), nodesF t.2 ≤ n → canonT S (subN k (subN g t)) = canonT S (subN (fun s => subN k (g s)) t) := by
  intro n
  induction n using Nat.strongRecOn with
  | _ n ih =>
    intro t hn
    by_cases hx : noName t.1.1 = true
    · have e1 : subN g t = (t.1, subF g t.2) := by unfold subN; rw [if_pos hx]
      have e2 : subN k (t.1, subF g t.2) = (t.1, subF k (subF g t.2)) := by unfold subN; rw [if_pos hx]
      have e3 : subN (fun s => subN k (g s)) t = (t.1, subF (fun s => subN k (g s)) t.2) := by unfold subN; rw [if_pos hx]
      rw [e1, e2, e3]
      unfold canonT
      dsimp only
      congr 1
      rw [canonL_map, canonL_map, subF_subF, kids_sub, List.map_map, List.map_map]
      refine List.map_congr_left fun c hc => ?_
      have := kid_less hc
      exact ih (nodesF c.2) (by omega) c (Nat.le_refl _)
    · have e1 : subN g t = g t.1.1 := by unfold subN; rw [if_neg hx]
      have e3 : subN (fun s => subN k (g s)) t = subN k (g t.1.1) := by show (if noName t.1.1 = true then _ else _) = _; rw [if_neg hx]
      rw [e1, e3]
theorem sub_sub {S : Sg} (g k : ByteArray → Tn) (t : Tn) : canonT S (subN k (subN g t)) = canonT S (subN (fun s => subN k (g s)) t) := sub_sub_all _ t (Nat.le_refl _)

/-! ### how many nodes -/
def wtT (g : ByteArray → Tn) (t : Tn) : Nat := sizeT (subN g t)
def wts (g : ByteArray → Tn) (l : List Tn) : Nat := (l.map (wtT g)).sum
theorem wts_cons (g : ByteArray → Tn) (t : Tn) (l : List Tn) : wts g (t :: l) = wtT g t + wts g l := by simp [wts]
theorem wts_append (g : ByteArray → Tn) : ∀ l m : List Tn, wts g (l ++ m) = wts g l + wts g m
  | [], _ => by simp [wts]
  | t :: l, m => by rw [List.cons_append, wts_cons, wts_cons, wts_append g l m]; omega
theorem wts_perm {g : ByteArray → Tn} {l m : List Tn} (h : List.Perm l m) : wts g l = wts g m := by
  induction h with
  | nil => rfl
  | cons x _ ih => rw [wts_cons, wts_cons, ih]
  | swap x y l => simp only [wts_cons]; omega
  | trans _ _ h1 h2 => exact h1.trans h2
theorem wt_node (g : ByteArray → Tn) {t : Tn} (h : noName t.1.1 = true) : wtT g t = wts g (kidsL t.2) + 1 := by
  unfold wtT subN
  rw [if_pos h]
  show nodesF (subF g t.2) + 1 = _
  rw [nodes_sizes, kids_sub]
  unfold sizes wts
  rw [List.map_map]
  rfl
theorem parts_wt (S : Sg) (g : ByteArray → Tn) (f : Int) (t : Tn) : wts g (partsN S f t) ≤ wtT g t := by
  unfold partsN
  split
  · simp [wts]
  · split
    · simp [wts]
    · split
      · rename_i h
        rw [wt_node g (headed_iff.1 h).1]
        omega
      · simp [wts]
theorem flat_wt (S : Sg) (g : ByteArray → Tn) (f : Int) : ∀ cs : List Tn, wts g (cs.flatMap (partsN S f)) ≤ wts g cs
  | [] => Nat.le_refl _
  | c :: r => by
    rw [List.flatMap_cons, wts_append, wts_cons]
    have := parts_wt S g f c
    have := flat_wt S g f r
    omega
theorem const_wt (g : ByteArray → Tn) (u : Int) : wtT g (constT u) = 1 := by
  rw [wt_node g (t := constT u) noName_noB]
  rfl
theorem join_wt {S : Sg} {g : ByteArray → Tn} {f : Int} {l : List Tn} {t : Tn} (h : joinL S f l = some t) : wtT g t ≤ wts g l + 1 := by
  match l, h with
  | [], h =>
    simp only [joinL, Option.map_eq_some_iff] at h
    obtain ⟨u, _, rfl⟩ := h
    rw [const_wt]
    omega
  | [a], h =>
    simp only [joinL, Option.some.injEq] at h
    subst h
    simp [wts]
  | a :: b :: r, h =>
    simp only [joinL, Option.some.injEq] at h
    subst h
    rw [wt_node g (t := ((noB, f), mkF (sortN (a :: b :: r)))) noName_noB]
    show wts g (kidsL (mkF (sortN (a :: b :: r)))) + 1 ≤ _
    rw [kids_mk, wts_perm (sortN_perm _)]
    exact Nat.le_refl _
theorem canon_wt_all (S : Sg) (g : ByteArray → Tn) : ∀ (n : Nat) (t : Tn), nodesF t.2 ≤ n → wtT g (canonT S t) ≤ wtT g t := by
  intro n
  induction n using Nat.strongRecOn with
  | _ n ih =>
    intro t hn
    have IH : ∀ l : List Tn, (∀ k ∈ l, k ∈ kidsL t.2) → wts g (l.map (canonT S)) ≤ wts g l := fun l => by
      induction l with
      | nil => intro _; exact Nat.le_refl _
      | cons k r ihl =>
        intro hk
        rw [List.map_cons, wts_cons, wts_cons]
        have h1 := kid_less (hk k (by simp))
        have h2 := ih (nodesF k.2) (by omega) k (Nat.le_refl _)
        have h3 := ihl (fun k' hk' => hk k' (by simp [hk']))
        omega
    have h0 := IH (kidsL t.2) (fun _ h => h)
    by_cases hx : noName t.1.1 = true
    · rw [wt_node g hx]
      unfold canonT canon1
      rw [if_neg (by simp [hx]), canonL_map]
      by_cases hj : S.joins t.1.2 = true
      · rw [if_pos hj]
        unfold joinN
        rw [if_neg (by simp [hj])]
        cases hq : joinL S t.1.2 ((List.map (canonT S) (kidsL t.2)).flatMap (partsN S t.1.2)) with
        | none =>
          show wtT g (constT t.1.2) ≤ _
          rw [const_wt]
          omega
        | some q =>
          have h1 := join_wt (g := g) hq
          have h2 := flat_wt S g t.1.2 (List.map (canonT S) (kidsL t.2))
          show wtT g q ≤ _
          omega
      · rw [if_neg hj, wt_node g (t := ((noB, t.1.2), mkF (List.map (canonT S) (kidsL t.2)))) noName_noB]
        show wts g (kidsL (mkF _)) + 1 ≤ _
        rw [kids_mk]
        omega
    · have hx' : noName t.1.1 = false := by simpa using hx
      have e1 : canonT S t = ((t.1.1, 0), .nil) := by unfold canonT canon1; rw [if_pos hx']
      rw [e1]
      unfold wtT subN
      rw [if_neg hx, if_neg (by simpa using hx')]
      exact Nat.le_refl _
/-- A canonical form grows no more than its term. -/
theorem canon_wt (S : Sg) (g : ByteArray → Tn) (t : Tn) : sizeT (subN g (canonT S t)) ≤ sizeT (subN g t) := canon_wt_all S g _ t (Nat.le_refl _)
/-- First a, then b, is what says of each variable what b makes of what a says. -/
theorem sub_comp {S : Sg} {ar : Int → Nat} (hS : S.Ok ar) {g k c : ByteArray → Tn} (hg : RightG S ar g) (hk : RightG S ar k) (he : ∀ s, noName s = false → canonT S (c s) = canonT S (subN k (g s))) {t : Tn} (h : RightT S ar t) : canonT S (subN k (canonT S (subN g t))) = canonT S (subN c t) := by
  rw [sub_canon hS hk (subG_right hg h), sub_sub g k t]
  exact (sub_same he h).symm
end Go.Proofs.YtgidgmgpgfonnaaGreat
