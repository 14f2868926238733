import Derived.Test.YtfnfbljijkjkjaaGreatKUfJ
/- Free, plainly: what is done step by step, and that it ends. -/
namespace Go.Proofs.YtfnfbljijkjkjaaGreat

/-! ### terms whose variables have neither arguments nor a symbol -/
def okF : Fo → Prop
  | .nil => True
  | .node _ _ x l r => ((noName x.1 = false → l = .nil ∧ x.2 = 0) ∧ okF l) ∧ okF r
def okT (t : Tn) : Prop := (noName t.1.1 = false → t.2 = .nil ∧ t.1.2 = 0) ∧ okF t.2
theorem okF_kids : ∀ {F : Fo}, okF F ↔ ∀ k ∈ kidsL F, okT k
  | .nil => by simp [okF, kidsL]
  | .node _ _ x l r => by
    simp only [okF, kidsL, List.mem_cons]
    rw [okF_kids (F := r)]
    constructor
    · rintro ⟨h1, h2⟩ k (rfl | hk)
      · exact h1
      · exact h2 k hk
    · intro h
      exact ⟨h _ (.inl rfl), fun k hk => h k (.inr hk)⟩
/-- The variables of terms. -/
def nmF : Fo → List ByteArray
  | .nil => []
  | .node _ _ x l r => ((if noName x.1 = true then [] else [x.1]) ++ nmF l) ++ nmF r
def nmT (t : Tn) : List ByteArray := (if noName t.1.1 = true then [] else [t.1.1]) ++ nmF t.2
theorem nmF_kids {s : ByteArray} : ∀ {F : Fo}, s ∈ nmF F ↔ ∃ k ∈ kidsL F, s ∈ nmT k
  | .nil => by simp [nmF, kidsL]
  | .node _ _ x l r => by
    simp only [nmF, kidsL, List.mem_append, List.mem_cons, exists_eq_or_imp]
    rw [nmF_kids (F := r)]
    simp only [nmT, List.mem_append]
theorem bytes_beq {a b : ByteArray} : (a.toList == b.toList) = true ↔ a = b := ⟨fun h => by
  have h1 : a.toList = b.toList := eq_of_beq h
  rw [ByteArray.toList_eq, ByteArray.toList_eq] at h1
  exact bytes_eq h1, fun h => by rw [h]; exact beq_self_eq_true _⟩
theorem eqN_iff {nm : ByteArray} {x : ByteArray × Int} : eqN nm x = true ↔ x.1 = nm := bytes_beq
theorem has_nmF {nm : ByteArray} : ∀ {F : Fo}, hasF nm F = true ↔ nm ∈ nmF F
  | .nil => by simp [hasF, nmF]
  | .node _ _ x l r => by
    rw [hasF, nmF]
    simp only [Bool.or_eq_true, List.mem_append]
    rw [has_nmF (F := l), has_nmF (F := r)]
    have : hasN nm x = true ↔ nm ∈ (if noName x.1 = true then [] else [x.1] : List ByteArray) := by
      unfold hasN
      cases hx : noName x.1
      · simp only [Bool.not_false, Bool.true_and, Bool.false_eq_true, if_false, List.mem_singleton]
        rw [bytes_beq]
        exact ⟨fun h => h.symm, fun h => h.symm⟩
      · simp
    rw [this]
theorem has_nmT {nm : ByteArray} {t : Tn} : hasT nm t.1 t.2 = true ↔ nm ∈ nmT t := by
  rw [← hasR_is]
  unfold hasR nmT
  simp only [Bool.or_eq_true, List.mem_append]
  rw [has_nmF]
  have : hasN nm t.1 = true ↔ nm ∈ (if noName t.1.1 = true then [] else [t.1.1] : List ByteArray) := by
    unfold hasN
    cases hx : noName t.1.1
    · simp only [Bool.not_false, Bool.true_and, Bool.false_eq_true, if_false, List.mem_singleton]
      rw [bytes_beq]
      exact ⟨fun h => h.symm, fun h => h.symm⟩
    · simp
  rw [this]

/-! ### one variable put in -/
theorem okF_w1 {nm : ByteArray} {T : Tn} (hT : okT T) : ∀ {F : Fo}, okF F → okF (w1F nm T F)
  | .nil, _ => trivial
  | .node _ _ x l r, h => by
    unfold w1F
    split
    · exact ⟨hT, okF_w1 hT h.2⟩
    · refine ⟨⟨fun hx => ?_, okF_w1 hT h.1.2⟩, okF_w1 hT h.2⟩
      obtain ⟨h1, h2⟩ := h.1.1 hx
      exact ⟨by rw [h1]; rfl, h2⟩
theorem okT_w1 {nm : ByteArray} {T t : Tn} (hT : okT T) (h : okT t) : okT (w1T nm T t) := by
  unfold w1T w1N
  split
  · exact hT
  · refine ⟨fun hx => ?_, okF_w1 hT h.2⟩
    obtain ⟨h1, h2⟩ := h.1 hx
    exact ⟨by show w1F nm T t.2 = .nil; rw [h1]; rfl, h2⟩
theorem nmF_w1 {nm : ByteArray} {T : Tn} {s : ByteArray} : ∀ {F : Fo}, okF F → s ∈ nmF (w1F nm T F) → s ∈ nmT T ∨ (s ∈ nmF F ∧ s ≠ nm)
  | .nil, _, h => by simp [w1F, nmF] at h
  | .node _ _ x l r, ho, h => by
    unfold w1F at h
    split at h
    · rw [nmF, List.mem_append] at h
      rcases h with h | h
      · exact .inl h
      · rcases nmF_w1 ho.2 h with h | ⟨h, h2⟩
        · exact .inl h
        · exact .inr ⟨by rw [nmF]; exact List.mem_append_right _ h, h2⟩
    · rename_i hne
      rw [nmF, List.mem_append, List.mem_append] at h
      rcases h with (h | h) | h
      · refine .inr ⟨by rw [nmF]; exact List.mem_append_left _ (List.mem_append_left _ h), fun e => hne ?_⟩
        split at h
        · cases h
        · rw [eqN_iff, ← e]
          exact (List.mem_singleton.1 h).symm
      · rcases nmF_w1 ho.1.2 h with h | ⟨h, h2⟩
        · exact .inl h
        · exact .inr ⟨by rw [nmF]; exact List.mem_append_left _ (List.mem_append_right _ h), h2⟩
      · rcases nmF_w1 ho.2 h with h | ⟨h, h2⟩
        · exact .inl h
        · exact .inr ⟨by rw [nmF]; exact List.mem_append_right _ h, h2⟩
theorem nmT_w1 {nm : ByteArray} {T t : Tn} {s : ByteArray} (ho : okT t) (h : s ∈ nmT (w1T nm T t)) : s ∈ nmT T ∨ (s ∈ nmT t ∧ s ≠ nm) := by
  unfold w1T w1N at h
  split at h
  · exact .inl h
  · rename_i hne
    unfold nmT at h
    rw [List.mem_append] at h
    rcases h with h | h
    · refine .inr ⟨by unfold nmT; exact List.mem_append_left _ h, fun e => hne ?_⟩
      dsimp only at h
      split at h
      · cases h
      · rw [eqN_iff, ← e]
        exact (List.mem_singleton.1 h).symm
    · rcases nmF_w1 ho.2 h with h | ⟨h, h2⟩
      · exact .inl h
      · exact .inr ⟨by unfold nmT; exact List.mem_append_right _ h, h2⟩
theorem l1F_eq {nm : ByteArray} {T : Tn} : ∀ (F : Fo) (r : Int), 0 ≤ l1F nm ((nodesF T.2 : Int) + 1) F r → l1F nm ((nodesF T.2 : Int) + 1) F r = r - nodesF (w1F nm T F)
  | .nil, r, _ => by simp [l1F, w1F, nodesF]
  | .node _ _ x l s, r, h => by
    unfold l1F at h ⊢
    by_cases hr : r < 0
    · rw [if_pos hr] at h; omega
    · rw [if_neg hr] at h ⊢
      unfold w1F
      by_cases he : eqN nm x = true
      · rw [if_pos he] at h ⊢
        rw [if_pos he]
        have := l1F_eq s _ h
        rw [this]
        simp only [nodesF]
        omega
      · rw [if_neg he] at h ⊢
        rw [if_neg he]
        have h1 : 0 ≤ l1F nm ((nodesF T.2 : Int) + 1) l (r - 1) := by
          rcases Int.lt_or_le (l1F nm ((nodesF T.2 : Int) + 1) l (r - 1)) 0 with h2 | h2
          · rw [l1F_neg _ _ s _ h2] at h; omega
          · exact h2
        have e1 := l1F_eq l (r - 1) h1
        have e2 := l1F_eq s _ h
        rw [e2, e1]
        simp only [nodesF]
        omega
theorem room_nodes {nm : ByteArray} {T : Tn} {x : ByteArray × Int} {l : Fo} (h : roomB nm ((nodesF T.2 : Int) + 1) x l = true) : nodesF (w1N nm T x l).2 + 1 ≤ 400 := by
  have h0 : 0 ≤ l1N nm ((nodesF T.2 : Int) + 1) x l 400 := of_decide_eq_true h
  unfold l1N at h0
  unfold w1N
  by_cases he : eqN nm x = true
  · rw [if_pos he] at h0 ⊢; omega
  · rw [if_neg he] at h0 ⊢
    have := l1F_eq (T := T) l _ h0
    show nodesF (w1F nm T l) + 1 ≤ 400
    omega

/-! ### step by step -/
def roomT (nm : ByteArray) (T : Tn) (t : Tn) : Bool := roomB nm ((nodesF T.2 : Int) + 1) t.1 t.2
def roomS (nm : ByteArray) (T : Tn) (st : List (Tn × Tn)) (bs : List Bn) : Bool := (st.all fun p => roomT nm T p.1 && roomT nm T p.2) && bs.all fun b => roomT nm T b.2
def putS (nm : ByteArray) (T : Tn) (st : List (Tn × Tn)) : List (Tn × Tn) := st.map fun p => (w1T nm T p.1, w1T nm T p.2)
def putB (nm : ByteArray) (T : Tn) (bs : List Bn) : List Bn := bs.map fun b => (b.1, w1T nm T b.2)
/-- What becomes of equations and binds: 0 and the binds; 1: there is no answer; 2: a term grows too much. -/
def freeF (sg : List Sym) : Nat → List (Tn × Tn) → List Bn → Option (Int × List Bn)
  | 0, _, _ => none
  | _ + 1, [], bs => some (0, bs)
  | f + 1, p :: r, bs =>
    if (lookP sg p.1 p.2).act = 2 then some (1, [])
    else if (lookP sg p.1 p.2).act = 3 then
      (if roomS (lookP sg p.1 p.2).bv (lookP sg p.1 p.2).t r bs = true then freeF sg f (putS (lookP sg p.1 p.2).bv (lookP sg p.1 p.2).t r) (putB (lookP sg p.1 p.2).bv (lookP sg p.1 p.2).t bs ++ [((lookP sg p.1 p.2).bv, (lookP sg p.1 p.2).t)]) else some (2, []))
    else if (lookP sg p.1 p.2).act = 4 then freeF sg f ((lookP sg p.1 p.2).ls ++ r) bs
    else freeF sg f r bs
/-- How deep equations may come to lie. -/
def DpOk (M : Nat) : List (Tn × Tn) → Prop
  | [] => True
  | p :: r => r.length + 1 + nodesF p.1.2 ≤ M ∧ DpOk M r
structure GoodS (L : List ByteArray) (M : Nat) (st : List (Tn × Tn)) : Prop where
  ok : ∀ p ∈ st, okT p.1 ∧ okT p.2
  nm : ∀ p ∈ st, (∀ s ∈ nmT p.1, s ∈ L) ∧ ∀ s ∈ nmT p.2, s ∈ L
  sz : ∀ p ∈ st, nodesF p.1.2 ≤ 1048576 ∧ nodesF p.2.2 ≤ 1048576
  dp : DpOk M st
theorem GoodS.tail {L : List ByteArray} {M : Nat} {p : Tn × Tn} {r : List (Tn × Tn)} (h : GoodS L M (p :: r)) : GoodS L M r :=
  ⟨fun q hq => h.ok q (.tail _ hq), fun q hq => h.nm q (.tail _ hq), fun q hq => h.sz q (.tail _ hq), h.dp.2⟩
theorem ok_var {A : Tn} (h : okT A) (hx : noName A.1.1 = false) : A = ((A.1.1, 0), .nil) := by
  obtain ⟨⟨x, s⟩, l⟩ := A
  obtain ⟨h1, h2⟩ := h.1 hx
  dsimp only at h1 h2
  rw [h1, h2]
theorem cmpN_self (x : Tn) : cmpN x x = 0 := by have := cmpN_anti x x; omega
/-- What look says where a variable is set. -/
theorem look_set {sg : List Sym} {A B : Tn} (hA : okT A) (hB : okT B) (h : (lookP sg A B).act = 3) : noName (lookP sg A B).bv = false ∧ okT (lookP sg A B).t ∧ (lookP sg A B).bv ∉ nmT (lookP sg A B).t ∧
    (((lookP sg A B).bv = A.1.1 ∧ (lookP sg A B).t = B ∧ noName A.1.1 = false) ∨ ((lookP sg A B).bv = B.1.1 ∧ (lookP sg A B).t = A ∧ noName B.1.1 = false)) := by
  unfold lookP at h ⊢
  cases hx : noName A.1.1
  · rw [hx, if_pos rfl] at h
    rw [if_pos rfl]
    cases hy : noName B.1.1
    · rw [hy, if_pos rfl] at h
      rw [if_pos rfl]
      unfold ofVarsP at h ⊢
      by_cases h0 : cmpN A B = 0
      · rw [if_pos h0] at h; cases h
      · rw [if_neg h0] at h ⊢
        have hne : A.1.1 ≠ B.1.1 := fun e => h0 (by
          rw [ok_var hA hx, ok_var hB hy, e]
          exact cmpN_self _)
        have nA : nmT A = [A.1.1] := by unfold nmT; rw [hx, (hA.1 hx).1]; rfl
        have nB : nmT B = [B.1.1] := by unfold nmT; rw [hy, (hB.1 hy).1]; rfl
        split
        · exact ⟨hx, hB, by show A.1.1 ∉ nmT B; rw [nB]; simpa using hne, .inl ⟨rfl, rfl, rfl⟩⟩
        · exact ⟨hy, hA, by show B.1.1 ∉ nmT A; rw [nA]; simpa using fun e => hne e.symm, .inr ⟨rfl, rfl, rfl⟩⟩
    · rw [hy, if_neg (by simp)] at h
      rw [if_neg (by simp)]
      unfold ofVarP at h ⊢
      by_cases hh : hasT A.1.1 B.1 B.2 = true
      · rw [if_pos hh] at h; cases h
      · rw [if_neg hh]
        exact ⟨hx, hB, fun h2 => hh (has_nmT.2 h2), .inl ⟨rfl, rfl, rfl⟩⟩
  · rw [hx, if_neg (by simp)] at h
    rw [if_neg (by simp)]
    cases hy : noName B.1.1
    · rw [hy, if_pos rfl] at h
      rw [if_pos rfl]
      unfold ofVarP at h ⊢
      by_cases hh : hasT B.1.1 A.1 A.2 = true
      · rw [if_pos hh] at h; cases h
      · rw [if_neg hh]
        exact ⟨hy, hA, fun h2 => hh (has_nmT.2 h2), .inr ⟨rfl, rfl, rfl⟩⟩
    · rw [hy, if_neg (by simp)] at h
      exfalso
      split at h
      · split at h
        · unfold sideP at h
          split at h <;> cases h
        · cases h
      · cases h
theorem look_parts {sg : List Sym} {A B : Tn} (h : (lookP sg A B).act = 4) : noName A.1.1 = true ∧ noName B.1.1 = true ∧ A.1.2 = B.1.2 ∧ lenF A.2 = lenF B.2 ∧ (lookP sg A B).ls = (kidsL A.2).zip (kidsL B.2) := by
  unfold lookP at h ⊢
  cases hx : noName A.1.1
  · rw [hx, if_pos rfl] at h
    exfalso
    split at h
    · unfold ofVarsP at h
      split at h
      · cases h
      · split at h <;> cases h
    · unfold ofVarP at h
      split at h <;> cases h
  · rw [hx, if_neg (by simp)] at h
    rw [if_neg (by simp)]
    cases hy : noName B.1.1
    · rw [hy, if_pos rfl] at h
      exfalso
      unfold ofVarP at h
      split at h <;> cases h
    · rw [hy, if_neg (by simp)] at h
      rw [if_neg (by simp)]
      by_cases hs : A.1.2 = B.1.2
      · rw [if_pos hs] at h ⊢
        cases hf : freeB sg A.1.2
        · rw [hf, if_neg (by simp)] at h; cases h
        · rw [hf, if_pos rfl] at h
          rw [if_pos rfl]
          unfold sideP at h ⊢
          by_cases hl : lenF A.2 = lenF B.2
          · rw [if_pos hl]; exact ⟨rfl, rfl, hs, hl, rfl⟩
          · rw [if_neg hl] at h; cases h
      · rw [if_neg hs] at h; cases h
end Go.Proofs.YtfnfbljijkjkjaaGreat
