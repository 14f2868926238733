import Derived.Test.YtfnfbljijkjkjaaGreatKSrS
/- Plain: what Free answers is right: it loses no substitution that solves all, and wins none. -/
namespace Go.Proofs.YtfnfbljijkjkjaaGreat

def eT (S : Sg) (th : List Bn) (t : Tn) : Tn := canonT S (pinN th t.1 t.2)
def vr (s : ByteArray) : Tn := ((s, 0), .nil)
theorem eT_sym {S : Sg} (hJ : ∀ f, S.joins f = false) (th : List Bn) {t : Tn} (hx : noName t.1.1 = true) : eT S th t = ((noB, t.1.2), mkF ((kidsL t.2).map (eT S th))) := by
  unfold eT
  have e : pinN th t.1 t.2 = (t.1, pinF th t.2) := by unfold pinN; rw [if_pos hx]
  rw [e, canon_free hx (hJ _), canonL_map, pinF_kids, List.map_map]
  rfl
theorem kid_size {F : Fo} {k : Tn} (h : k ∈ kidsL F) : nodesF k.2 < nodesF F := by
  have := mem_sizes h
  rw [← nodes_sizes] at this
  unfold sizeT at this
  omega
/-- A variable that stands for what it stands for may be put in. -/
theorem eT_w1 {S : Sg} (hJ : ∀ f, S.joins f = false) {th : List Bn} {nm : ByteArray} {T : Tn} (h0 : noName nm = false) (he : eT S th (vr nm) = eT S th T) : ∀ (n : Nat) (t : Tn), nodesF t.2 ≤ n → okT t → eT S th (w1T nm T t) = eT S th t := by
  intro n
  induction n using Nat.strongRecOn with
  | _ n ih =>
    intro t hn ho
    unfold w1T w1N
    by_cases hq : eqN nm t.1 = true
    · rw [if_pos hq]
      have hnm := eqN_iff.1 hq
      have hx : noName t.1.1 = false := by rw [hnm]; exact h0
      rw [ok_var ho hx, hnm]
      exact he.symm
    · rw [if_neg hq]
      cases hx : noName t.1.1
      · have h2 := (ho.1 hx).1
        have e : w1F nm T t.2 = t.2 := by rw [h2]; rfl
        show eT S th (t.1, w1F nm T t.2) = _
        rw [e]
      · rw [eT_sym hJ th (t := (t.1, w1F nm T t.2)) hx, eT_sym hJ th hx]
        show ((noB, t.1.2), mkF ((kidsL (w1F nm T t.2)).map (eT S th))) = _
        rw [w1F_kids, List.map_map]
        congr 2
        refine List.map_congr_left fun k hk => ?_
        have hk2 := kid_size hk
        exact ih (nodesF k.2) (by omega) k (Nat.le_refl _) (okF_kids.1 ho.2 k hk)

/-! ### right terms of free symbols -/
theorem right_ok {S : Sg} {ar : Int → Nat} {t : Tn} (h : RightT S ar t) : okT t := by
  have hF : ∀ F : Fo, RightF S ar F → okF F := by
    intro F
    induction F with
    | nil => intro _; trivial
    | node B O x l r ih1 ih2 =>
      intro h
      refine ⟨⟨fun hx => ?_, ih1 h.1.2⟩, ih2 h.2⟩
      have h1 := h.1.1
      unfold nodeOk at h1
      rw [if_pos hx] at h1
      exact ⟨len_nil h1.2, h1.1⟩
  refine ⟨fun hx => ?_, hF _ h.2⟩
  have h1 := h.1
  unfold nodeOk at h1
  rw [if_pos hx] at h1
  exact ⟨len_nil h1.2, h1.1⟩
/-- A right term, all of whose symbols are free. -/
structure RT (sg : List Sym) (t : Tn) : Prop where
  right : RightT (sgOf sg) (arAt sg) t
  free : afT sg t.1 t.2 = true
theorem afF_kids (sg : List Sym) : ∀ F : Fo, afF sg F = true ↔ ∀ k ∈ kidsL F, afT sg k.1 k.2 = true
  | .nil => by simp [afF, kidsL]
  | .node _ _ x l r => by
    simp only [afF, kidsL, List.mem_cons, Bool.and_eq_true]
    rw [afF_kids sg r]
    constructor
    · rintro ⟨⟨h1, h2⟩, h3⟩ k (rfl | hk)
      · unfold afT; rw [h1, h2]; rfl
      · exact h3 k hk
    · intro h
      have h0 := h _ (.inl rfl)
      unfold afT at h0
      rw [Bool.and_eq_true] at h0
      exact ⟨h0, fun k hk => h k (.inr hk)⟩
theorem RT.kid {sg : List Sym} {t k : Tn} (h : RT sg t) (hk : k ∈ kidsL t.2) : RT sg k := by
  have hf := h.free
  unfold afT at hf
  rw [Bool.and_eq_true] at hf
  exact ⟨right_kids.1 h.right.2 k hk, (afF_kids sg t.2).1 hf.2 k hk⟩
theorem rightF_w1 {S : Sg} {ar : Int → Nat} {nm : ByteArray} {T : Tn} (hT : RightT S ar T) : ∀ {F : Fo}, RightF S ar F → RightF S ar (w1F nm T F)
  | .nil, _ => trivial
  | .node _ _ x l r, h => by
    unfold w1F
    split
    · exact ⟨hT, rightF_w1 hT h.2⟩
    · exact ⟨⟨by rw [w1F_len]; exact h.1.1, rightF_w1 hT h.1.2⟩, rightF_w1 hT h.2⟩
theorem afF_w1 {sg : List Sym} {nm : ByteArray} {T : Tn} (hT : afT sg T.1 T.2 = true) : ∀ {F : Fo}, afF sg F = true → afF sg (w1F nm T F) = true
  | .nil, _ => rfl
  | .node _ _ x l r, h => by
    rw [afF, Bool.and_eq_true, Bool.and_eq_true] at h
    unfold w1F
    split
    · rw [afF, afF_w1 hT h.2, Bool.and_true]
      exact hT
    · rw [afF, afF_w1 hT h.2, afF_w1 hT h.1.2, h.1.1]
      rfl
theorem RT.w1 {sg : List Sym} {nm : ByteArray} {T t : Tn} (hT : RT sg T) (h : RT sg t) : RT sg (w1T nm T t) := by
  unfold w1T w1N
  split
  · exact hT
  · have hf := h.free
    unfold afT at hf
    rw [Bool.and_eq_true] at hf
    refine ⟨⟨by show nodeOk _ _ t.1 (lenF (w1F nm T t.2)); rw [w1F_len]; exact h.right.1, rightF_w1 hT.right h.right.2⟩, ?_⟩
    show (fr1 sg t.1 && afF sg (w1F nm T t.2)) = true
    rw [hf.1, afF_w1 hT.free hf.2]
    rfl
/-! ### each step -/
theorem mkF_iff {l m : List Tn} : mkF l = mkF m ↔ l = m := ⟨mkF_inj, fun h => by rw [h]⟩
theorem zip_iff {f : Tn → Tn} : ∀ (l m : List Tn), l.length = m.length → ((∀ q ∈ l.zip m, f q.1 = f q.2) ↔ l.map f = m.map f)
  | [], [], _ => by simp
  | [], _ :: _, h => by simp at h
  | _ :: _, [], h => by simp at h
  | a :: l, b :: m, h => by
    have ih := zip_iff (f := f) l m (by simpa using h)
    simp only [List.zip_cons_cons, List.mem_cons, List.map_cons, List.cons.injEq]
    rw [← ih]
    constructor
    · intro h1; exact ⟨h1 _ (.inl rfl), fun q hq => h1 q (.inr hq)⟩
    · rintro ⟨h1, h2⟩ q (rfl | hq)
      · exact h1
      · exact h2 q hq
structure LookOk (sg : List Sym) (th : List Bn) (A B : Tn) : Prop where
  one : (lookP sg A B).act = 1 → eT (sgOf sg) th A = eT (sgOf sg) th B
  two : (∀ b ∈ th, RightT (sgOf sg) (arAt sg) b.2) → (lookP sg A B).act = 2 → eT (sgOf sg) th A ≠ eT (sgOf sg) th B
  three : (lookP sg A B).act = 3 → (eT (sgOf sg) th A = eT (sgOf sg) th B ↔ eT (sgOf sg) th (vr (lookP sg A B).bv) = eT (sgOf sg) th (lookP sg A B).t)
  four : (lookP sg A B).act = 4 → (eT (sgOf sg) th A = eT (sgOf sg) th B ↔ ∀ q ∈ (lookP sg A B).ls, eT (sgOf sg) th q.1 = eT (sgOf sg) th q.2)
  five : (lookP sg A B).act ≠ 5
theorem eT_right {sg : List Sym} {th : List Bn} (hb : ∀ b ∈ th, RightT (sgOf sg) (arAt sg) b.2) {t : Tn} (h : RightT (sgOf sg) (arAt sg) t) : RightT (sgOf sg) (arAt sg) (pinN th t.1 t.2) := pinN_right hb _ _ h
theorem occ_not {sg : List Sym} (hP : sg.map plainS = sg) {th : List Bn} (hb : ∀ b ∈ th, RightT (sgOf sg) (arAt sg) b.2) {A B : Tn} (hA : RightT (sgOf sg) (arAt sg) A) (hB : RightT (sgOf sg) (arAt sg) B) (hx : noName A.1.1 = false) (hy : noName B.1.1 = true) (hh : hasT A.1.1 B.1 B.2 = true) : eT (sgOf sg) th A ≠ eT (sgOf sg) th B := by
  have := occurs_not (sg := sg) (bs := th) (A := A) (B := B)
  rw [hP] at this
  exact this hb hA hB hx hy hh
theorem look_ok {sg : List Sym} (hJ : ∀ f, (sgOf sg).joins f = false) (hP : sg.map plainS = sg) (th : List Bn) {A B : Tn} (hA : RT sg A) (hB : RT sg B) : LookOk sg th A B := by
  have oA := right_ok hA.right
  have oB := right_ok hB.right
  have h3 : (lookP sg A B).act = 3 → (eT (sgOf sg) th A = eT (sgOf sg) th B ↔ eT (sgOf sg) th (vr (lookP sg A B).bv) = eT (sgOf sg) th (lookP sg A B).t) := fun h => by
    obtain ⟨_, _, _, h4⟩ := look_set oA oB h
    rcases h4 with ⟨e1, e2, e3⟩ | ⟨e1, e2, e3⟩
    · rw [e1, e2]
      have : vr A.1.1 = A := (ok_var oA e3).symm
      rw [this]
    · rw [e1, e2]
      have : vr B.1.1 = B := (ok_var oB e3).symm
      rw [this]
      exact ⟨fun h => h.symm, fun h => h.symm⟩
  have h4 : (lookP sg A B).act = 4 → (eT (sgOf sg) th A = eT (sgOf sg) th B ↔ ∀ q ∈ (lookP sg A B).ls, eT (sgOf sg) th q.1 = eT (sgOf sg) th q.2) := fun h => by
    obtain ⟨e1, e2, e3, e4, e5⟩ := look_parts h
    rw [e5, zip_iff (f := eT (sgOf sg) th) _ _ (by rw [kids_len, kids_len]; exact e4), eT_sym hJ th e1, eT_sym hJ th e2, e3]
    constructor
    · intro h5
      exact mkF_inj (congrArg Prod.snd h5)
    · intro h5
      rw [h5]
  refine ⟨?_, ?_, h3, h4, ?_⟩
  · intro h
    unfold lookP at h
    cases hx : noName A.1.1
    · rw [hx, if_pos rfl] at h
      cases hy : noName B.1.1
      · rw [hy, if_pos rfl] at h
        unfold ofVarsP at h
        by_cases h0 : cmpN A B = 0
        · have hn : A.1.1 = B.1.1 := by
            unfold cmpN cmp1 at h0
            rw [hx, hy, if_pos rfl, if_pos rfl] at h0
            exact bytes_eq (bytes_zero h0)
          rw [ok_var oA hx, ok_var oB hy, hn]
        · rw [if_neg h0] at h
          split at h <;> cases h
      · rw [hy, if_neg (by simp)] at h
        unfold ofVarP at h
        split at h <;> cases h
    · rw [hx, if_neg (by simp)] at h
      cases hy : noName B.1.1
      · rw [hy, if_pos rfl] at h
        unfold ofVarP at h
        split at h <;> cases h
      · rw [hy, if_neg (by simp)] at h
        split at h
        · split at h
          · unfold sideP at h
            split at h <;> cases h
          · cases h
        · cases h
  · intro hb h
    unfold lookP at h
    cases hx : noName A.1.1
    · rw [hx, if_pos rfl] at h
      cases hy : noName B.1.1
      · rw [hy, if_pos rfl] at h
        unfold ofVarsP at h
        split at h
        · cases h
        · split at h <;> cases h
      · rw [hy, if_neg (by simp)] at h
        unfold ofVarP at h
        by_cases hh : hasT A.1.1 B.1 B.2 = true
        · exact occ_not hP hb hA.right hB.right hx hy hh
        · rw [if_neg hh] at h; cases h
    · rw [hx, if_neg (by simp)] at h
      cases hy : noName B.1.1
      · rw [hy, if_pos rfl] at h
        unfold ofVarP at h
        by_cases hh : hasT B.1.1 A.1 A.2 = true
        · exact fun e => occ_not hP hb hB.right hA.right hy hx hh e.symm
        · rw [if_neg hh] at h; cases h
      · rw [hy, if_neg (by simp)] at h
        by_cases hs : A.1.2 = B.1.2
        · rw [if_pos hs] at h
          split at h
          · unfold sideP at h
            by_cases hl : lenF A.2 = lenF B.2
            · rw [if_pos hl] at h; cases h
            · exfalso
              have nA := hA.right.1
              have nB := hB.right.1
              unfold nodeOk at nA nB
              rw [if_neg (by simp [hx]), hJ, if_neg (by simp)] at nA
              rw [if_neg (by simp [hy]), hJ, if_neg (by simp), ← hs] at nB
              omega
          · cases h
        · rw [eT_sym hJ th hx, eT_sym hJ th hy]
          intro e
          exact hs (Prod.mk.inj (Prod.mk.inj e).1).2
  · intro h
    unfold lookP at h
    split at h
    · split at h
      · unfold ofVarsP at h
        split at h
        · cases h
        · split at h <;> cases h
      · unfold ofVarP at h
        split at h <;> cases h
    · rename_i hx
      split at h
      · unfold ofVarP at h
        split at h <;> cases h
      · split at h
        · split at h
          · unfold sideP at h
            split at h <;> cases h
          · rename_i hf
            have := hA.free
            unfold afT fr1 at this
            rw [Bool.and_eq_true] at this
            have h2 : noName A.1.1 = true := by simpa using hx
            rw [h2] at this
            simp at this
            exact hf this.1
        · cases h
end Go.Proofs.YtfnfbljijkjkjaaGreat
