import Derived.Test.YtfnfbljijkjkjaaTRCmp
import Derived.Test.YtfnfbljijkjkjaaKSBd
/- Free, plainly: what is done step by step, and that it ends. -/
namespace Go.Proofs.Ytfnfbljijkjkjaa

/-! ### terms whose variables have neither arguments nor a symbol -/
def okF : Fo → Prop
  | .nil => True
  | .node _ _ x l r => ((noName x.1 = false → l = .nil ∧ x.2 = 0) ∧ okF l) ∧ okF r
def okT (t : Tn) : Prop := (noName t.1.1 = false → t.2 = .nil ∧ t.1.2 = 0) ∧ okF t.2
theorem okF_kids : ∀ {F : Fo}, okF F ↔ ∀ k ∈ kidsL F, okT k
  | .nil => by simp [okF, kidsL]
  | .node _ _ x l r => by
    simp only [okF, kidsL, List.mem_cons]
    rw [okF_kids (F := r)]
    constructor
    · rintro ⟨h1, h2⟩ k (rfl | hk)
      · exact h1
      · exact h2 k hk
    · intro h
      exact ⟨h _ (.inl rfl), fun k hk => h k (.inr hk)⟩
/-- The variables of terms. -/
def nmF : Fo → List ByteArray
  | .nil => []
  | .node _ _ x l r => ((if noName x.1 = true then [] else [x.1]) ++ nmF l) ++ nmF r
def nmT (t : Tn) : List ByteArray := (if noName t.1.1 = true then [] else [t.1.1]) ++ nmF t.2
theorem nmF_kids {s : ByteArray} : ∀ {F : Fo}, s ∈ nmF F ↔ ∃ k ∈ kidsL F, s ∈ nmT k
  | .nil => by simp [nmF, kidsL]
  | .node _ _ x l r => by
    simp only [nmF, kidsL, List.mem_append, List.mem_cons, exists_eq_or_imp]
    rw [nmF_kids (F := r)]
    simp only [nmT, List.mem_append]
theorem bytes_beq {a b : ByteArray} : (a.toList == b.toList) = true ↔ a = b := ⟨fun h => by
  have h1 : a.toList = b.toList := eq_of_beq h
  rw [ByteArray.toList_eq, ByteArray.toList_eq] at h1
  exact bytes_eq h1, fun h => by rw [h]; exact beq_self_eq_true _⟩
theorem eqN_iff {nm : ByteArray} {x : ByteArray × Int} : eqN nm x = true ↔ x.1 = nm := bytes_beq
theorem has_nmF {nm : ByteArray} : ∀ {F : Fo}, hasF nm F = true ↔ nm ∈ nmF F
  | .nil => by simp [hasF, nmF]
  | .node _ _ x l r => by
    rw [hasF, nmF]
    simp only [Bool.or_eq_true, List.mem_append]
    rw [has_nmF (F := l), has_nmF (F := r)]
    have : hasN nm x = true ↔ nm ∈ (if noName x.1 = true then [] else [x.1] : List ByteArray) := by
      unfold hasN
      cases hx : noName x.1
      · simp only [Bool.not_false, Bool.true_and, Bool.false_eq_true, if_false, List.mem_singleton]
        rw [bytes_beq]
        exact ⟨fun h => h.symm, fun h => h.symm⟩
      · simp
    rw [this]
theorem has_nmT {nm : ByteArray} {t : Tn} : hasT nm t.1 t.2 = true ↔ nm ∈ nmT t := by
  rw [← hasR_is]
  unfold hasR nmT
  simp only [Bool.or_eq_true, List.mem_append]
  rw [has_nmF]
  have : hasN nm t.1 = true ↔ nm ∈ (if noName t.1.1 = true then [] else [t.1.1] : List ByteArray) := by
    unfold hasN
    cases hx : noName t.1.1
    · simp only [Bool.not_false, Bool.true_and, Bool.false_eq_true, if_false, List.mem_singleton]
      rw [bytes_beq]
      exact ⟨fun h => h.symm, fun h => h.symm⟩
    · simp
  rw [this]

/-! ### one variable put in -/
theorem okF_w1 {nm : ByteArray} {T : Tn} (hT : okT T) : ∀ {F : Fo}, okF F → okF (w1F nm T F)
  | .nil, _ => trivial
  | .node _ _ x l r, h => by
    unfold w1F
    split
    · exact ⟨hT, okF_w1 hT h.2⟩
    · refine ⟨⟨fun hx => ?_, okF_w1 hT h.1.2⟩, okF_w1 hT h.2⟩
      obtain ⟨h1, h2⟩ := h.1.1 hx
      exact ⟨by rw [h1]; rfl, h2⟩
theorem okT_w1 {nm : ByteArray} {T t : Tn} (hT : okT T) (h : okT t) : okT (w1T nm T t) := by
  unfold w1T w1N
  split
  · exact hT
  · refine ⟨fun hx => ?_, okF_w1 hT h.2⟩
    obtain ⟨h1, h2⟩ := h.1 hx
    exact ⟨by show w1F nm T t.2 = .nil; rw [h1]; rfl, h2⟩
theorem nmF_w1 {nm : ByteArray} {T : Tn} {s : ByteArray} : ∀ {F : Fo}, okF F → s ∈ nmF (w1F nm T F) → s ∈ nmT T ∨ (s ∈ nmF F ∧ s ≠ nm)
  | .nil, _, h => by simp [w1F, nmF] at h
  | .node _ _ x l r, ho, h => by
    unfold w1F at h
    split at h
    · rw [nmF, List.mem_append] at h
      rcases h with h | h
      · exact .inl h
      · rcases nmF_w1 ho.2 h with h | ⟨h, h2⟩
        · exact .inl h
        · exact .inr ⟨by rw [nmF]; exact List.mem_append_right _ h, h2⟩
    · rename_i hne
      rw [nmF, List.mem_append, List.mem_append] at h
      rcases h with (h | h) | h
      · refine .inr ⟨by rw [nmF]; exact List.mem_append_left _ (List.mem_append_left _ h), fun e => hne ?_⟩
        split at h
        · cases h
        · rw [eqN_iff, ← e]
          exact (List.mem_singleton.1 h).symm
      · rcases nmF_w1 ho.1.2 h with h | ⟨h, h2⟩
        · exact .inl h
        · exact .inr ⟨by rw [nmF]; exact List.mem_append_left _ (List.mem_append_right _ h), h2⟩
      · rcases nmF_w1 ho.2 h with h | ⟨h, h2⟩
        · exact .inl h
        · exact .inr ⟨by rw [nmF]; exact List.mem_append_right _ h, h2⟩
theorem nmT_w1 {nm : ByteArray} {T t : Tn} {s : ByteArray} (ho : okT t) (h : s ∈ nmT (w1T nm T t)) : s ∈ nmT T ∨ (s ∈ nmT t ∧ s ≠ nm) := by
  unfold w1T w1N at h
  split at h
  · exact .inl h
  · rename_i hne
    unfold nmT at h
    rw [List.mem_append] at h
    rcases h with h | h
    · refine .inr ⟨by unfold nmT; exact List.mem_append_left _ h, fun e => hne ?_⟩
      dsimp only at h
      split at h
      · cases h
      · rw [eqN_iff, ← e]
        exact (List.mem_singleton.1 h).symm
    · rcases nmF_w1 ho.2 h with h | ⟨h, h2⟩
      · exact .inl h
      · exact .inr ⟨by unfold nmT; exact List.mem_append_right _ h, h2⟩
theorem l1F_eq {nm : ByteArray} {T : Tn} : ∀ (F : Fo) (r : Int), 0 ≤ l1F nm ((nodesF T.2 : Int) + 1) F r → l1F nm ((nodesF T.2 : Int) + 1) F r = r - nodesF (w1F nm T F)
  | .nil, r, _ => by simp [l1F, w1F, nodesF]
  | .node _ _ x l s, r, h => by
    unfold l1F at h ⊢
    by_cases hr : r < 0
    · rw [if_pos hr] at h; omega
    · rw [if_neg hr] at h ⊢
      unfold w1F
      by_cases he : eqN nm x = true
      · rw [if_pos he] at h ⊢
        rw [if_pos he]
        have := l1F_eq s _ h
        rw [this]
        simp only [nodesF]
        omega
      · rw [if_neg he] at h ⊢
        rw [if_neg he]
        have h1 : 0 ≤ l1F nm ((nodesF T.2 : Int) + 1) l (r - 1) := by
          rcases Int.lt_or_le (l1F nm ((nodesF T.2 : Int) + 1) l (r - 1)) 0 with h2 | h2
          · rw [l1F_neg _ _ s _ h2] at h; omega
          · exact h2
        have e1 := l1F_eq l (r - 1) h1
        have e2 := l1F_eq s _ h
        rw [e2, e1]
        simp only [nodesF]
        omega
theorem room_nodes {nm : ByteArray} {T : Tn} {x : ByteArray × Int} {l : Fo} (h : roomB nm ((nodesF T.2 : Int) + 1) x l = true) : nodesF (w1N nm T x l).2 + 1 ≤ 400 := by
  have h0 : 0 ≤ l1N nm ((nodesF T.2 : Int) + 1) x l 400 := of_decide_eq_true h
  unfold l1N at h0
  unfold w1N
  by_cases he : eqN nm x = true
  · rw [if_pos he] at h0 ⊢; omega
  · rw [if_neg he] at h0 ⊢
    have := l1F_eq (T := T) l _ h0
    show nodesF (w1F nm T l) + 1 ≤ 400
    omega

/-! ### step by step -/
def roomT (nm : ByteArray) (T : Tn) (t : Tn) : Bool := roomB nm ((nodesF T.2 : Int) + 1) t.1 t.2
def roomS (nm : ByteArray) (T : Tn) (st : List (Tn × Tn)) (bs : List Bn) : Bool := (st.all fun p => roomT nm T p.1 && roomT nm T p.2) && bs.all fun b => roomT nm T b.2
def putS (nm : ByteArray) (T : Tn) (st : List (Tn × Tn)) : List (Tn × Tn) := st.map fun p => (w1T nm T p.1, w1T nm T p.2)
def putB (nm : ByteArray) (T : Tn) (bs : List Bn) : List Bn := bs.map fun b => (b.1, w1T nm T b.2)
/-- What becomes of equations and binds: 0 and the binds; 1: there is no answer; 2: a term grows too much. -/
def freeF (sg : List Sym) : Nat → List (Tn × Tn) → List Bn → Option (Int × List Bn)
  | 0, _, _ => none
  | _ + 1, [], bs => some (0, bs)
  | f + 1, p :: r, bs =>
    if (lookP sg p.1 p.2).act = 2 then some (1, [])
    else if (lookP sg p.1 p.2).act = 3 then
      (if roomS (lookP sg p.1 p.2).bv (lookP sg p.1 p.2).t r bs = true then freeF sg f (putS (lookP sg p.1 p.2).bv (lookP sg p.1 p.2).t r) (putB (lookP sg p.1 p.2).bv (lookP sg p.1 p.2).t bs ++ [((lookP sg p.1 p.2).bv, (lookP sg p.1 p.2).t)]) else some (2, []))
    else if (lookP sg p.1 p.2).act = 4 then freeF sg f ((lookP sg p.1 p.2).ls ++ r) bs
    else freeF sg f r bs
/-- How deep equations may come to lie. -/
def DpOk (M : Nat) : List (Tn × Tn) → Prop
  | [] => True
  | p :: r => r.length + 1 + nodesF p.1.2 ≤ M ∧ DpOk M r
structure GoodS (L : List ByteArray) (M : Nat) (st : List (Tn × Tn)) : Prop where
  ok : ∀ p ∈ st, okT p.1 ∧ okT p.2
  nm : ∀ p ∈ st, (∀ s ∈ nmT p.1, s ∈ L) ∧ ∀ s ∈ nmT p.2, s ∈ L
  sz : ∀ p ∈ st, nodesF p.1.2 ≤ 1048576 ∧ nodesF p.2.2 ≤ 1048576
  dp : DpOk M st
theorem GoodS.tail {L : List ByteArray} {M : Nat} {p : Tn × Tn} {r : List (Tn × Tn)} (h : GoodS L M (p :: r)) : GoodS L M r :=
  ⟨fun q hq => h.ok q (.tail _ hq), fun q hq => h.nm q (.tail _ hq), fun q hq => h.sz q (.tail _ hq), h.dp.2⟩
theorem ok_var {A : Tn} (h : okT A) (hx : noName A.1.1 = false) : A = ((A.1.1, 0), .nil) := by
  obtain ⟨⟨x, s⟩, l⟩ := A
  obtain ⟨h1, h2⟩ := h.1 hx
  dsimp only at h1 h2
  rw [h1, h2]
theorem cmpN_self (x : Tn) : cmpN x x = 0 := by have := cmpN_anti x x; omega
/-- What look says where a variable is set. -/
theorem look_set {sg : List Sym} {A B : Tn} (hA : okT A) (hB : okT B) (h : (lookP sg A B).act = 3) : noName (lookP sg A B).bv = false ∧ okT (lookP sg A B).t ∧ (lookP sg A B).bv ∉ nmT (lookP sg A B).t ∧
    (((lookP sg A B).bv = A.1.1 ∧ (lookP sg A B).t = B ∧ noName A.1.1 = false) ∨ ((lookP sg A B).bv = B.1.1 ∧ (lookP sg A B).t = A ∧ noName B.1.1 = false)) := by
  unfold lookP at h ⊢
  cases hx : noName A.1.1
  · rw [hx, if_pos rfl] at h
    rw [if_pos rfl]
    cases hy : noName B.1.1
    · rw [hy, if_pos rfl] at h
      rw [if_pos rfl]
      unfold ofVarsP at h ⊢
      by_cases h0 : cmpN A B = 0
      · rw [if_pos h0] at h; cases h
      · rw [if_neg h0] at h ⊢
        have hne : A.1.1 ≠ B.1.1 := fun e => h0 (by
          rw [ok_var hA hx, ok_var hB hy, e]
          exact cmpN_self _)
        have nA : nmT A = [A.1.1] := by unfold nmT; rw [hx, (hA.1 hx).1]; rfl
        have nB : nmT B = [B.1.1] := by unfold nmT; rw [hy, (hB.1 hy).1]; rfl
        split
        · exact ⟨hx, hB, by show A.1.1 ∉ nmT B; rw [nB]; simpa using hne, .inl ⟨rfl, rfl, rfl⟩⟩
        · exact ⟨hy, hA, by show B.1.1 ∉ nmT A; rw [nA]; simpa using fun e => hne e.symm, .inr ⟨rfl, rfl, rfl⟩⟩
    · rw [hy, if_neg (by simp)] at h
      rw [if_neg (by simp)]
      unfold ofVarP at h ⊢
      by_cases hh : hasT A.1.1 B.1 B.2 = true
      · rw [if_pos hh] at h; cases h
      · rw [if_neg hh]
        exact ⟨hx, hB, fun h2 => hh (has_nmT.2 h2), .inl ⟨rfl, rfl, rfl⟩⟩
  · rw [hx, if_neg (by simp)] at h
    rw [if_neg (by simp)]
    cases hy : noName B.1.1
    · rw [hy, if_pos rfl] at h
      rw [if_pos rfl]
      unfold ofVarP at h ⊢
      by_cases hh : hasT B.1.1 A.1 A.2 = true
      · rw [if_pos hh] at h; cases h
      · rw [if_neg hh]
        exact ⟨hy, hA, fun h2 => hh (has_nmT.2 h2), .inr ⟨rfl, rfl, rfl⟩⟩
    · rw [hy, if_neg (by simp)] at h
      exfalso
      split at h
      · split at h
        · unfold sideP at h
          split at h <;> cases h
        · cases h
      · cases h
theorem look_parts {sg : List Sym} {A B : Tn} (h : (lookP sg A B).act = 4) : noName A.1.1 = true ∧ noName B.1.1 = true ∧ A.1.2 = B.1.2 ∧ lenF A.2 = lenF B.2 ∧ (lookP sg A B).ls = (kidsL A.2).zip (kidsL B.2) := by
  unfold lookP at h ⊢
  cases hx : noName A.1.1
  · rw [hx, if_pos rfl] at h
    exfalso
    split at h
    · unfold ofVarsP at h
      split at h
      · cases h
      · split at h <;> cases h
    · unfold ofVarP at h
      split at h <;> cases h
  · rw [hx, if_neg (by simp)] at h
    rw [if_neg (by simp)]
    cases hy : noName B.1.1
    · rw [hy, if_pos rfl] at h
      exfalso
      unfold ofVarP at h
      split at h <;> cases h
    · rw [hy, if_neg (by simp)] at h
      rw [if_neg (by simp)]
      by_cases hs : A.1.2 = B.1.2
      · rw [if_pos hs] at h ⊢
        cases hf : freeB sg A.1.2
        · rw [hf, if_neg (by simp)] at h; cases h
        · rw [hf, if_pos rfl] at h
          rw [if_pos rfl]
          unfold sideP at h ⊢
          by_cases hl : lenF A.2 = lenF B.2
          · rw [if_pos hl]; exact ⟨rfl, rfl, hs, hl, rfl⟩
          · rw [if_neg hl] at h; cases h
      · rw [if_neg hs] at h; cases h
end Go.Proofs.Ytfnfbljijkjkjaa
/- Free, plainly: each step keeps equations small, and they come to an end. -/
namespace Go.Proofs.Ytfnfbljijkjkjaa

theorem DpOk.mono {M M' : Nat} (h : M ≤ M') : ∀ {st : List (Tn × Tn)}, DpOk M st → DpOk M' st
  | [], _ => trivial
  | _ :: _, hd => ⟨Nat.le_trans hd.1 h, DpOk.mono h hd.2⟩
theorem DpOk.len {M : Nat} {st : List (Tn × Tn)} (h : DpOk M st) : st.length ≤ M := by
  cases st with
  | nil => exact Nat.zero_le _
  | cons p r => have := h.1; simp only [List.length_cons]; omega
theorem mem_sizes : ∀ {l : List Tn} {t : Tn}, t ∈ l → sizeT t ≤ sizes l
  | [], _, h => by cases h
  | a :: r, t, h => by
    rw [sizes_cons]
    rcases List.mem_cons.1 h with rfl | h
    · omega
    · have := mem_sizes h; omega
theorem dp_zip {M : Nat} {r : List (Tn × Tn)} (hr : DpOk M r) : ∀ (l m : List Tn), r.length + 1 + sizes l ≤ M → DpOk M (l.zip m ++ r)
  | [], _, _ => hr
  | _ :: _, [], _ => hr
  | a :: l, b :: m, h => by
    rw [sizes_cons] at h
    have ih := dp_zip hr l m (by unfold sizeT at h; omega)
    refine ⟨?_, ih⟩
    have hl : ∀ l : List Tn, l.length ≤ sizes l := by
      intro l
      induction l with
      | nil => exact Nat.zero_le _
      | cons a r ih => rw [sizes_cons, List.length_cons]; unfold sizeT; omega
    show (l.zip m ++ r).length + 1 + nodesF a.2 ≤ M
    rw [List.length_append, List.length_zip]
    have := hl l
    unfold sizeT at h
    omega
theorem GoodS.parts {sg : List Sym} {L : List ByteArray} {M : Nat} {p : Tn × Tn} {r : List (Tn × Tn)} (h : GoodS L M (p :: r)) (ha : (lookP sg p.1 p.2).act = 4) : GoodS L M ((lookP sg p.1 p.2).ls ++ r) := by
  obtain ⟨h1, h2, h3, h4, h5⟩ := look_parts ha
  rw [h5]
  have hz : ∀ q ∈ (kidsL p.1.2).zip (kidsL p.2.2), q.1 ∈ kidsL p.1.2 ∧ q.2 ∈ kidsL p.2.2 := fun q hq => List.of_mem_zip hq
  have ho := h.ok p (.head _)
  have hn := h.nm p (.head _)
  have hs := h.sz p (.head _)
  refine ⟨fun q hq => ?_, fun q hq => ?_, fun q hq => ?_, dp_zip h.dp.2 _ _ (by have := h.dp.1; rw [← nodes_sizes]; exact this)⟩
  · rcases List.mem_append.1 hq with hq | hq
    · exact ⟨okF_kids.1 ho.1.2 _ (hz q hq).1, okF_kids.1 ho.2.2 _ (hz q hq).2⟩
    · exact h.ok q (.tail _ hq)
  · rcases List.mem_append.1 hq with hq | hq
    · refine ⟨fun s hs => hn.1 s ?_, fun s hs => hn.2 s ?_⟩
      · unfold nmT; exact List.mem_append_right _ (nmF_kids.2 ⟨_, (hz q hq).1, hs⟩)
      · unfold nmT; exact List.mem_append_right _ (nmF_kids.2 ⟨_, (hz q hq).2, hs⟩)
    · exact h.nm q (.tail _ hq)
  · rcases List.mem_append.1 hq with hq | hq
    · have e1 := mem_sizes (hz q hq).1
      have e2 := mem_sizes (hz q hq).2
      rw [← nodes_sizes] at e1 e2
      unfold sizeT at e1 e2
      omega
    · exact h.sz q (.tail _ hq)
theorem dp_put {M : Nat} {nm : ByteArray} {T : Tn} : ∀ {st : List (Tn × Tn)}, DpOk M st → (st.all fun p => roomT nm T p.1 && roomT nm T p.2) = true → DpOk (M + 400) (putS nm T st)
  | [], _, _ => trivial
  | p :: r, h, ha => by
    rw [List.all_cons, Bool.and_eq_true, Bool.and_eq_true] at ha
    refine ⟨?_, dp_put h.2 ha.2⟩
    have := room_nodes ha.1.1
    have e : (putS nm T r).length = r.length := by unfold putS; rw [List.length_map]
    show (putS nm T r).length + 1 + nodesF (w1T nm T p.1).2 ≤ M + 400
    rw [e]
    have h1 := h.1
    unfold w1T
    omega
theorem GoodS.set {sg : List Sym} {L : List ByteArray} {M : Nat} {p : Tn × Tn} {r : List (Tn × Tn)} (h : GoodS L M (p :: r)) (ha : (lookP sg p.1 p.2).act = 3) (hr : (r.all fun q => roomT (lookP sg p.1 p.2).bv (lookP sg p.1 p.2).t q.1 && roomT (lookP sg p.1 p.2).bv (lookP sg p.1 p.2).t q.2) = true) :
    ∃ L' : List ByteArray, L'.length < L.length ∧ GoodS L' (M + 400) (putS (lookP sg p.1 p.2).bv (lookP sg p.1 p.2).t r) := by
  have ho := h.ok p (.head _)
  have hn := h.nm p (.head _)
  obtain ⟨h1, h2, h3, h4⟩ := look_set ho.1 ho.2 ha
  have hL : (lookP sg p.1 p.2).bv ∈ L ∧ ∀ s ∈ nmT (lookP sg p.1 p.2).t, s ∈ L := by
    rcases h4 with ⟨e1, e2, e3⟩ | ⟨e1, e2, e3⟩
    · rw [e1, e2]
      exact ⟨hn.1 _ (by unfold nmT; rw [e3]; simp), hn.2⟩
    · rw [e1, e2]
      exact ⟨hn.2 _ (by unfold nmT; rw [e3]; simp), hn.1⟩
  generalize (lookP sg p.1 p.2).bv = nm at h1 h3 hL hr ⊢
  generalize (lookP sg p.1 p.2).t = T at h2 h3 hL hr ⊢
  refine ⟨L.filter (fun s => decide (s ≠ nm)), List.length_filter_lt_length_iff_exists.2 ⟨nm, hL.1, by simp⟩, ?_⟩
  have hnm : ∀ {t : Tn}, okT t → (∀ s ∈ nmT t, s ∈ L) → ∀ s ∈ nmT (w1T nm T t), s ∈ L.filter (fun s => decide (s ≠ nm)) := fun ht hs s h5 => by
    rw [List.mem_filter]
    rcases nmT_w1 ht h5 with h6 | ⟨h6, h7⟩
    · exact ⟨hL.2 s h6, decide_eq_true (fun (e : s = nm) => h3 (e ▸ h6))⟩
    · exact ⟨hs s h6, decide_eq_true h7⟩
  refine ⟨fun q hq => ?_, fun q hq => ?_, fun q hq => ?_, dp_put h.dp.2 hr⟩
  all_goals
    obtain ⟨q', hq', rfl⟩ := List.mem_map.1 hq
  · have := h.ok q' (.tail _ hq')
    exact ⟨okT_w1 h2 this.1, okT_w1 h2 this.2⟩
  · have h5 := h.ok q' (.tail _ hq')
    have h6 := h.nm q' (.tail _ hq')
    exact ⟨hnm h5.1 h6.1, hnm h5.2 h6.2⟩
  · have h5 := List.all_eq_true.1 hr q' hq'
    rw [Bool.and_eq_true] at h5
    have e1 := room_nodes h5.1
    have e2 := room_nodes h5.2
    show nodesF (w1N nm T q'.1.1 q'.1.2).2 ≤ _ ∧ nodesF (w1N nm T q'.2.1 q'.2.2).2 ≤ _
    omega
def sizeS (st : List (Tn × Tn)) : Nat := (st.map fun p => nodesF p.1.2 + 1).sum
theorem sizeS_app (a b : List (Tn × Tn)) : sizeS (a ++ b) = sizeS a + sizeS b := by simp [sizeS]
theorem sizeS_zip : ∀ (l m : List Tn), sizeS (l.zip m) ≤ sizes l
  | [], _ => by simp [sizeS]
  | _ :: _, [] => by simp [sizeS]
  | a :: l, b :: m => by
    have ih := sizeS_zip l m
    have e : sizeS ((a :: l).zip (b :: m)) = (nodesF a.2 + 1) + sizeS (l.zip m) := by simp [sizeS]
    rw [e, sizes_cons]
    unfold sizeT
    omega
/-- It ends. -/
theorem free_ends (sg : List Sym) : ∀ (n : Nat) (L : List ByteArray), L.length ≤ n → ∀ (k M : Nat) (st : List (Tn × Tn)) (bs : List Bn), GoodS L M st → sizeS st ≤ k → ∃ f, (freeF sg f st bs).isSome = true := by
  intro n
  induction n with
  | zero =>
    intro L hL k
    induction k with
    | zero =>
      intro M st bs h hk
      cases st with
      | nil => exact ⟨1, rfl⟩
      | cons p r => simp [sizeS] at hk
    | succ k ih =>
      intro M st bs h hk
      cases st with
      | nil => exact ⟨1, rfl⟩
      | cons p r =>
        have hs : sizeS (p :: r) = (nodesF p.1.2 + 1) + sizeS r := by simp [sizeS]
        by_cases h2 : (lookP sg p.1 p.2).act = 2
        · exact ⟨1, by rw [freeF, if_pos h2]; rfl⟩
        · by_cases h3 : (lookP sg p.1 p.2).act = 3
          · exfalso
            have ho := h.ok p (.head _)
            have hn := h.nm p (.head _)
            have hL0 : L = [] := List.eq_nil_of_length_eq_zero (by omega)
            subst hL0
            obtain ⟨_, _, _, h4⟩ := look_set ho.1 ho.2 h3
            rcases h4 with ⟨_, _, e3⟩ | ⟨_, _, e3⟩
            · have := hn.1 p.1.1.1 (by unfold nmT; rw [e3]; simp)
              cases this
            · have := hn.2 p.2.1.1 (by unfold nmT; rw [e3]; simp)
              cases this
          · by_cases h4 : (lookP sg p.1 p.2).act = 4
            · obtain ⟨_, _, _, _, h5⟩ := look_parts h4
              obtain ⟨f, hf⟩ := ih M ((lookP sg p.1 p.2).ls ++ r) bs (h.parts h4) (by
                rw [h5, sizeS_app]
                have := sizeS_zip (kidsL p.1.2) (kidsL p.2.2)
                rw [← nodes_sizes] at this
                omega)
              exact ⟨f + 1, by rw [freeF, if_neg h2, if_neg h3, if_pos h4]; exact hf⟩
            · obtain ⟨f, hf⟩ := ih M r bs h.tail (by omega)
              exact ⟨f + 1, by rw [freeF, if_neg h2, if_neg h3, if_neg h4]; exact hf⟩
  | succ n ihn =>
    intro L hL k
    induction k with
    | zero =>
      intro M st bs h hk
      cases st with
      | nil => exact ⟨1, rfl⟩
      | cons p r => simp [sizeS] at hk
    | succ k ih =>
      intro M st bs h hk
      cases st with
      | nil => exact ⟨1, rfl⟩
      | cons p r =>
        have hs : sizeS (p :: r) = (nodesF p.1.2 + 1) + sizeS r := by simp [sizeS]
        by_cases h2 : (lookP sg p.1 p.2).act = 2
        · exact ⟨1, by rw [freeF, if_pos h2]; rfl⟩
        · by_cases h3 : (lookP sg p.1 p.2).act = 3
          · cases hr : roomS (lookP sg p.1 p.2).bv (lookP sg p.1 p.2).t r bs
            · exact ⟨1, by rw [freeF, if_neg h2, if_pos h3, hr]; rfl⟩
            · have hr2 := hr
              unfold roomS at hr2
              rw [Bool.and_eq_true] at hr2
              obtain ⟨L', hL', hg⟩ := h.set h3 hr2.1
              obtain ⟨f, hf⟩ := ihn L' (by omega) _ (M + 400) _ (putB (lookP sg p.1 p.2).bv (lookP sg p.1 p.2).t bs ++ [((lookP sg p.1 p.2).bv, (lookP sg p.1 p.2).t)]) hg (Nat.le_refl _)
              exact ⟨f + 1, by rw [freeF, if_neg h2, if_pos h3, hr, if_pos rfl]; exact hf⟩
          · by_cases h4 : (lookP sg p.1 p.2).act = 4
            · obtain ⟨_, _, _, _, h5⟩ := look_parts h4
              obtain ⟨f, hf⟩ := ih M ((lookP sg p.1 p.2).ls ++ r) bs (h.parts h4) (by
                rw [h5, sizeS_app]
                have := sizeS_zip (kidsL p.1.2) (kidsL p.2.2)
                rw [← nodes_sizes] at this
                omega)
              exact ⟨f + 1, by rw [freeF, if_neg h2, if_neg h3, if_pos h4]; exact hf⟩
            · obtain ⟨f, hf⟩ := ih M r bs h.tail (by omega)
              exact ⟨f + 1, by rw [freeF, if_neg h2, if_neg h3, if_neg h4]; exact hf⟩
/-- How it stands between two steps. -/
structure FInv (sg : List Sym) (R : Int × List Bn) (f : Nat) (st : List (Tn × Tn)) (bs : List Bn) : Prop where
  res : freeF sg f st bs = some R
  good : ∃ L M, GoodS L M st ∧ M + 400 * L.length ≤ 1073741823 ∧ bs.length + L.length ≤ 1048576
  bsz : ∀ b ∈ bs, nodesF b.2.2 ≤ 1048576
theorem FInv.len {sg : List Sym} {R : Int × List Bn} {f : Nat} {st : List (Tn × Tn)} {bs : List Bn} (h : FInv sg R f st bs) : st.length ≤ 1073741823 ∧ bs.length ≤ 1048576 := by
  obtain ⟨L, M, h1, h2, h3⟩ := h.good
  have := h1.dp.len
  omega
theorem FInv.pos {sg : List Sym} {R : Int × List Bn} {f : Nat} {st : List (Tn × Tn)} {bs : List Bn} (h : FInv sg R f st bs) : ∃ g, f = g + 1 := by
  cases f with
  | zero => have := h.res; rw [freeF] at this; cases this
  | succ g => exact ⟨g, rfl⟩
theorem FInv.done {sg : List Sym} {R : Int × List Bn} {f : Nat} {bs : List Bn} (h : FInv sg R f [] bs) : R = (0, bs) := by
  obtain ⟨g, rfl⟩ := h.pos
  have := h.res
  rw [freeF] at this
  exact (Option.some.inj this).symm
theorem FInv.sides {sg : List Sym} {R : Int × List Bn} {f : Nat} {p : Tn × Tn} {r : List (Tn × Tn)} {bs : List Bn} (h : FInv sg R f (p :: r) bs) : (okT p.1 ∧ okT p.2) ∧ nodesF p.1.2 ≤ 1048576 ∧ nodesF p.2.2 ≤ 1048576 ∧ ∀ q ∈ r, nodesF q.1.2 ≤ 1048576 ∧ nodesF q.2.2 ≤ 1048576 := by
  obtain ⟨L, M, h1, _⟩ := h.good
  exact ⟨h1.ok p (.head _), (h1.sz p (.head _)).1, (h1.sz p (.head _)).2, fun q hq => h1.sz q (.tail _ hq)⟩
theorem FInv.fail {sg : List Sym} {R : Int × List Bn} {f : Nat} {p : Tn × Tn} {r : List (Tn × Tn)} {bs : List Bn} (h : FInv sg R f (p :: r) bs) (ha : (lookP sg p.1 p.2).act = 2) : R = (1, []) := by
  obtain ⟨g, rfl⟩ := h.pos
  have := h.res
  rw [freeF, if_pos ha] at this
  exact (Option.some.inj this).symm
theorem FInv.grown {sg : List Sym} {R : Int × List Bn} {f : Nat} {p : Tn × Tn} {r : List (Tn × Tn)} {bs : List Bn} (h : FInv sg R f (p :: r) bs) (ha : (lookP sg p.1 p.2).act = 3) (hr : roomS (lookP sg p.1 p.2).bv (lookP sg p.1 p.2).t r bs = false) : R = (2, []) := by
  obtain ⟨g, rfl⟩ := h.pos
  have := h.res
  rw [freeF, if_neg (by omega), if_pos ha, hr, if_neg (by simp)] at this
  exact (Option.some.inj this).symm
theorem FInv.set {sg : List Sym} {R : Int × List Bn} {f : Nat} {p : Tn × Tn} {r : List (Tn × Tn)} {bs : List Bn} (h : FInv sg R f (p :: r) bs) (ha : (lookP sg p.1 p.2).act = 3) (hr : roomS (lookP sg p.1 p.2).bv (lookP sg p.1 p.2).t r bs = true) :
    ∃ g, g < f ∧ FInv sg R g (putS (lookP sg p.1 p.2).bv (lookP sg p.1 p.2).t r) (putB (lookP sg p.1 p.2).bv (lookP sg p.1 p.2).t bs ++ [((lookP sg p.1 p.2).bv, (lookP sg p.1 p.2).t)]) := by
  obtain ⟨g, rfl⟩ := h.pos
  have hres := h.res
  rw [freeF, if_neg (by omega), if_pos ha, hr, if_pos rfl] at hres
  obtain ⟨L, M, h1, h2, h3⟩ := h.good
  have hr2 := hr
  unfold roomS at hr2
  rw [Bool.and_eq_true] at hr2
  obtain ⟨L', hL', hg⟩ := h1.set ha hr2.1
  have hsd := h.sides
  refine ⟨g, Nat.lt_succ_self g, hres, ⟨L', M + 400, hg, by omega, by rw [List.length_append]; unfold putB; rw [List.length_map]; simp only [List.length_cons, List.length_nil]; omega⟩, fun b hb => ?_⟩
  rcases List.mem_append.1 hb with hb | hb
  · obtain ⟨b', hb', rfl⟩ := List.mem_map.1 hb
    have := room_nodes (List.all_eq_true.1 hr2.2 b' hb')
    show nodesF (w1N _ _ b'.2.1 b'.2.2).2 ≤ _
    omega
  · rw [List.mem_singleton.1 hb]
    have ho := h.sides.1
    obtain ⟨_, _, _, h4⟩ := look_set ho.1 ho.2 ha
    show nodesF (lookP sg p.1 p.2).t.2 ≤ _
    rcases h4 with ⟨_, e2, _⟩ | ⟨_, e2, _⟩
    · rw [e2]; exact hsd.2.2.1
    · rw [e2]; exact hsd.2.1
theorem FInv.parts {sg : List Sym} {R : Int × List Bn} {f : Nat} {p : Tn × Tn} {r : List (Tn × Tn)} {bs : List Bn} (h : FInv sg R f (p :: r) bs) (ha : (lookP sg p.1 p.2).act = 4) : ∃ g, g < f ∧ FInv sg R g ((lookP sg p.1 p.2).ls ++ r) bs := by
  obtain ⟨g, rfl⟩ := h.pos
  have hres := h.res
  rw [freeF, if_neg (by omega), if_neg (by omega), if_pos ha] at hres
  obtain ⟨L, M, h1, h2, h3⟩ := h.good
  exact ⟨g, Nat.lt_succ_self g, hres, ⟨L, M, h1.parts ha, h2, h3⟩, h.bsz⟩
theorem FInv.next {sg : List Sym} {R : Int × List Bn} {f : Nat} {p : Tn × Tn} {r : List (Tn × Tn)} {bs : List Bn} (h : FInv sg R f (p :: r) bs) (h2 : (lookP sg p.1 p.2).act ≠ 2) (h3 : (lookP sg p.1 p.2).act ≠ 3) (h4 : (lookP sg p.1 p.2).act ≠ 4) : ∃ g, g < f ∧ FInv sg R g r bs := by
  obtain ⟨g, rfl⟩ := h.pos
  have hres := h.res
  rw [freeF, if_neg h2, if_neg h3, if_neg h4] at hres
  obtain ⟨L, M, h1, h5, h6⟩ := h.good
  exact ⟨g, Nat.lt_succ_self g, hres, ⟨L, M, h1.tail, h5, h6⟩, h.bsz⟩
end Go.Proofs.Ytfnfbljijkjkjaa
/- allFree of the program. -/
namespace Go.Proofs.Ytfnfbljijkjkjaa
open Go.RowKit Go.Deep Go.Shelf

def fr1 (S : List Sym) (x : ByteArray × Int) : Bool := !noName x.1 || freeB S x.2
def afF (S : List Sym) : Fo → Bool
  | .nil => true
  | .node _ _ x l r => (fr1 S x && afF S l) && afF S r
def afT (S : List Sym) (x : ByteArray × Int) (l : Fo) : Bool := fr1 S x && afF S l
def AfOk (S : List Sym) (sa : Option Addr) (sn sc : Nat) (k : Nat) : Prop := ∀ (x : ByteArray × Int) (l : Fo) (a : Option Addr) (c : Nat) (w : World), nodesF l < k → SigAt w sa sn S → TmAt w x a c l →
  Calls Try.prog 30 #[.slice sa sn sc, .agg #[.string x.1, .int .i64 x.2, .slice a (lenF l) c]] w fun e w' => e = .returned (.bool (afT S x l)) ∧ Below w.heap.size w w'
set_option maxRecDepth 100000 in
set_option maxHeartbeats 1000000 in
theorem aclo_of {S : List Sym} {sa : Option Addr} {sn sc k : Nat} (hR : AfOk S sa sn sc k) (x : ByteArray × Int) (l : Fo) (a : Option Addr) (c sb : Nat) (w : World) (hk : nodesF l < k) (hS : SigAt w sa sn S) (hT : TmAt w x a c l) (hB : Boxed w sb 23 (.slice sa sn sc)) :
    Calls Try.prog 49 #[.agg #[.string x.1, .int .i64 x.2, .slice a (lenF l) c], .pointer (some ⟨sb, 0, none⟩)] w fun e w' => e = .returned (.bool (!afT S x l)) ∧ Below w.heap.size w w' := by
  have bx := alloc_below0 w (.cells #[.string x.1, .int .i64 x.2, .slice a (lenF l) c] 26)
  have H := hid (hR x l a c _ hk (hS.below bx) (hT.below bx))
  have X : XBox (w.alloc (.cells #[.string x.1, .int .i64 x.2, .slice a (lenF l) c] 26)) w.heap.size x (.slice a (lenF l) c) := World.alloc_heap_new w _
  have c0 := X.c0; have c1 := X.c1; have c2 := X.c2
  have s0 := (boxed_below hB bx).cell
  have HB := hid bx
  clear hR hS hT hB X bx
  go_enter Try.func49, Try.ntmps49
  go_wp2_with fail
  refine H.out.mono ?_
  rintro e w1 ⟨rfl, hb1⟩
  have HB1 := hid (HB.out.trans (hb1.mono HB.out.size))
  clear hb1 c0 c1 c2 s0
  go_wp2_with fail
  go_ret
  exact ⟨rfl, HB1.out⟩
set_option maxRecDepth 100000 in
set_option maxHeartbeats 1000000 in
theorem aidx_of {S : List Sym} {sa : Option Addr} {sn sc k : Nat} (hR : AfOk S sa sn sc k) (x : ByteArray × Int) (l : Fo) (a : Option Addr) (c sb : Nat) (w : World) (hk : nodesF l ≤ k) (hS : SigAt w sa sn S) (hT : TmAt w x a c l) (hB : Boxed w sb 23 (.slice sa sn sc)) :
    Calls Try.prog 69 #[.slice a (lenF l) c, .func (.func 49) #[] #[.pointer (some ⟨sb, 0, none⟩)]] w fun e w' => ∃ r : Int, e = .returned (.int .i64 r) ∧ (decide (0 ≤ r) = !afF S l) ∧ Below w.heap.size w w' := by
  have HT := hid hT; have HS := hid hS; have HB := hid hB; have HR := hid hR
  have hln : lenF l ≤ 2932031007402 := by have := hT.sizes.few; omega
  clear hT hS hB hR
  go_enter Try.func69, Try.ntmps69
  go_wp2
  go_loopw [4, 5, 8] (fun _ _ i wr => ∃ j : Nat, j ≤ lenF l ∧ i = .int .i64 j ∧ Below w.heap.size w wr ∧ afF S (dropF j l) = afF S l) (fun _ _ i _ => lenF l - (intOf i).toNat)
  case atStart => exact ⟨0, Nat.zero_le _, rfl, Below.refl _ _, by rw [drop_zero]⟩
  case round =>
    obtain ⟨j, hj, rfl, hb, hm⟩ := hrel
    have HW := hid hb
    by_cases hlt : j < lenF l
    · obtain ⟨b1, o1, rfl, hk1⟩ := HT.out.args.get (by omega)
      obtain ⟨z, a1, c1, l1, kd⟩ := hk1.kid (k := j) hlt
      have kd' := kd.below hb
      obtain ⟨B1, O1', s1⟩ := kd.split
      rw [s1] at hm
      have p0 := kd'.name; have p1 := kd'.sym; have p2 := kd'.list
      have hm' : (afT S z l1 && afF S (dropF (j + 1) l)) = afF S l := hm
      have HM := hid hm'
      have HC := hid (aclo_of HR.out z l1 a1 c1 sb wr (by have := kd.less; omega) (HS.out.below hb) kd'.at_ (boxed_below HB.out hb))
      obtain ⟨bv, hbv⟩ : ∃ bv, afT S z l1 = bv := ⟨_, rfl⟩
      rw [hbv] at HC HM
      clear kd kd' s1 hk1 hm hm' hb hbv
      go_wp2_with fail
      refine HC.out.mono ?_
      rintro e w1 ⟨rfl, hb1⟩
      have HW1 := hid (HW.out.trans (hb1.mono HW.out.size))
      clear hb1 p0 p1 p2 HC
      cases bv
      · go_wp2_with fail
        go_ret
        refine ⟨j, rfl, ?_, HW1.out⟩
        rw [← HM.out]
        simp
      · go_wp2_with fail
        go_roundw
        case rel => exact ⟨j + 1, by omega, by go_num, HW1.out, by rw [← HM.out]; rfl⟩
        case measure => simp [intOf]; omega
    · have e1 : j = lenF l := by omega
      rw [e1, drop_end] at hm
      have HM := hid hm
      clear hm hb
      go_wp2
      go_ret
      exact ⟨-1, rfl, by rw [← HM.out]; rfl, HW.out⟩
set_option maxRecDepth 100000 in
set_option maxHeartbeats 1000000 in
theorem acont_of {S : List Sym} {sa : Option Addr} {sn sc k : Nat} (hR : AfOk S sa sn sc k) (x : ByteArray × Int) (l : Fo) (a : Option Addr) (c sb : Nat) (w : World) (hk : nodesF l ≤ k) (hS : SigAt w sa sn S) (hT : TmAt w x a c l) (hB : Boxed w sb 23 (.slice sa sn sc)) :
    Calls Try.prog 48 #[.slice a (lenF l) c, .func (.func 49) #[] #[.pointer (some ⟨sb, 0, none⟩)]] w fun e w' => e = .returned (.bool (!afF S l)) ∧ Below w.heap.size w w' := by
  have H := hid (aidx_of hR x l a c sb w hk hS hT hB)
  clear hR hS hT hB
  go_enter Try.func48, Try.ntmps48
  go_wp2_with fail
  refine H.out.mono ?_
  rintro e w1 ⟨r, rfl, hr, hb1⟩
  have HB := hid hb1; have HR := hid hr
  clear hb1 hr
  go_wp2_with fail
  go_ret
  exact ⟨by rw [← HR.out]; rfl, HB.out⟩
set_option maxRecDepth 100000 in
set_option maxHeartbeats 2000000 in
theorem allFree_of {S : List Sym} {sa : Option Addr} {sn sc k : Nat} (hR : AfOk S sa sn sc k) : AfOk S sa sn sc (k + 1) := by
  intro x l a c w hk hG hT
  obtain ⟨xn, xs⟩ := x
  obtain ⟨b1, b2, hb0⟩ := two_new w #[.slice sa sn sc] 23 #[.string xn, .int .i64 xs, .slice a (lenF l) c] 26
  have H42 := hid fun (W : World) (hW : Below w.heap.size w W) => isFree_any sa sn sc S xs W (hG.below hW)
  have H48 := hid fun (W : World) (hW : Below w.heap.size w W) (hB : Boxed W w.heap.size 23 (.slice sa sn sc)) => acont_of hR (xn, xs) l a c w.heap.size W (by omega) (hG.below hW) (hT.below hW) hB
  have HB0 := hid hb0
  have HBX : Hid (Boxed ((w.alloc (.cells #[.slice sa sn sc] 23)).alloc (.cells #[.string xn, .int .i64 xs, .slice a (lenF l) c] 26)) w.heap.size 23 (.slice sa sn sc)) := hid b1
  have z0 := b1.c 0; have y0 := b2.c 0; have y1 := b2.c 1; have y2 := b2.c 2
  unfold afT fr1
  dsimp only
  clear hG hT b1 b2 hb0 hR
  cases he : xn.toList.isEmpty
  · have hnn : noName xn = false := he
    rw [hnn]
    have HNN := hid hnn
    clear hnn
    go_enter Try.func30, Try.ntmps30
    go_wp2_with (go_at_call 48; refine (H48.out _ HB0.out HBX.out).mono ?_; rintro e w1 ⟨rfl, hb1⟩; have HB1 := hid (HB0.out.trans (hb1.mono HB0.out.size)); clear hb1)
    go_ret
    exact ⟨by simp, HB1.out⟩
  · have hnn : noName xn = true := he
    rw [hnn]
    cases hf : freeB S xs
    · rw [hf] at H42
      go_enter Try.func30, Try.ntmps30
      go_wp2_with (go_at_call 42; refine (H42.out _ HB0.out).mono ?_; rintro e w1 ⟨rfl, rfl⟩)
      go_ret
      exact ⟨rfl, HB0.out⟩
    · rw [hf] at H42
      go_enter Try.func30, Try.ntmps30
      go_wp2_with (first
        | (go_at_call 42; refine (H42.out _ HB0.out).mono ?_; rintro e w1 ⟨rfl, rfl⟩)
        | (go_at_call 48; refine (H48.out _ HB0.out HBX.out).mono ?_; rintro e w1 ⟨rfl, hb1⟩; have HB1 := hid (HB0.out.trans (hb1.mono HB0.out.size)); clear hb1))
      go_ret
      exact ⟨by simp, HB1.out⟩
theorem allFree_all (S : List Sym) (sa : Option Addr) (sn sc : Nat) : ∀ k, AfOk S sa sn sc k
  | 0 => fun x l a c w hk => absurd hk (by omega)
  | k + 1 => allFree_of (allFree_all S sa sn sc k)
theorem allFree_any (S : List Sym) (sa : Option Addr) (sn sc : Nat) (x : ByteArray × Int) (l : Fo) (a : Option Addr) (c : Nat) (w : World) (hG : SigAt w sa sn S) (hT : TmAt w x a c l) :
    Calls Try.prog 30 #[.slice sa sn sc, .agg #[.string x.1, .int .i64 x.2, .slice a (lenF l) c]] w fun e w' => e = .returned (.bool (afT S x l)) ∧ Below w.heap.size w w' := allFree_all S sa sn sc (nodesF l + 1) x l a c w (Nat.lt_succ_self _) hG hT
end Go.Proofs.Ytfnfbljijkjkjaa
/- look of the program, where the terms lie in a part of the world. -/
namespace Go.Proofs.Ytfnfbljijkjkjaa
open Go.RowKit Go.Deep

/-- The one world's cells are the other's. -/
def SubW (wt w : World) : Prop := ∀ p v, wt.cell? p = some v → w.cell? p = some v
theorem SubW.below {wt w w' : World} (h : SubW wt w) (hb : Below w.heap.size w w') : SubW wt w' := fun p v hv => below_cell hb _ _ (h p v hv)
theorem sub_off (S : Nat → Obj → Bool) (w : World) : SubW (offW S w) w := fun _ _ hc => (off_cell hc).elim fun _ h => h.2.2
theorem kid_kept {w w' : World} {F : Fo} {b o k : Nat} {x : ByteArray × Int} {a : Option Addr} {c : Nat} {l : Fo} (h : Kid w F b o k x a c l) (hs : SubW w w') : Kid w' F b o k x a c l := ⟨hs _ _ h.name, hs _ _ h.sym, hs _ _ h.list, h.at_.kept hs, h.split, h.less⟩
set_option maxRecDepth 100000 in
set_option maxHeartbeats 2000000 in
theorem ofVarS_any (nm : ByteArray) (t : Tn) (a : Option Addr) (c : Nat) (w0 w : World) (hT0 : TmAt w0 t.1 a c t.2) (hw : SubW w0 w) (hM : nodesF t.2 ≤ 1048576) :
    Calls Try.prog 41 #[.string nm, .agg #[.string t.1.1, .int .i64 t.1.2, .slice a (lenF t.2) c]] w fun e w' => (∃ v, e = .returned v ∧ WayAt w0 v (ofVarP nm t)) ∧ Below w.heap.size w w' := by
  have hT := hT0.kept hw
  obtain ⟨⟨xn, xs⟩, l⟩ := t
  obtain ⟨b1, b2, hb0⟩ := two_new w #[.string xn, .int .i64 xs, .slice a (lenF l) c] 26 zWay 36
  have HT := hid hT0
  have HC := hid fun (W : World) (hW : Below w.heap.size w W) => has_any (xn, xs) l a c nm W (hT.below hW) (by dsimp only at hM; omega)
  have HS := hid fun (W : World) => setTo_any nm (xn, xs) a (lenF l) c W
  obtain ⟨hv, hhv⟩ : ∃ hv, hasT nm (xn, xs) l = hv := ⟨_, rfl⟩
  unfold ofVarP
  dsimp only at *
  rw [hhv] at HC ⊢
  have HX := hid b1; have HY := hid b2; have HB0 := hid hb0
  clear hT hT0 hw b1 b2 hb0 hhv
  cases hv
  · go_enter Try.func41, Try.ntmps41
    go_wp2_with (first
      | (go_at_call 64; refine (HC.out _ HB0.out).mono ?_; rintro e w1 ⟨rfl, hb1⟩; have HB1 := hid (HB0.out.trans (hb1.mono HB0.out.size)); have X1 := HX.out.below hb1; have Y1 := HY.out.below hb1; have HY1 := hid Y1; have z0 := X1.c 0; have z1 := X1.c 1; have z2 := X1.c 2; clear hb1 X1 Y1)
      | (go_at_call 63; refine (HS.out _).mono ?_; rintro e w2 ⟨rfl, hb2⟩; have HB2 := hid (HB1.out.trans (hb2.mono HB1.out.size)); have Y2 := HY1.out.below hb2; have HY2 := hid Y2; have r0 := Y2.c 0; have r1 := Y2.c 1; have r2 := Y2.c 2; have r3 := Y2.c 3; have r4 := Y2.c 4; have r5 := Y2.c 5; have r6 := Y2.c 6; have g0 := Y2.f 0; have g1 := Y2.f 1; have g2 := Y2.f 2; have g3 := Y2.f 3; have g4 := Y2.f 4; have g5 := Y2.f 5; have g6 := Y2.f 6; clear hb2 Y2; unfold wayC))
    refine bodyPost_ret (results_cell_row rfl _ _ (w.heap.size + 1) 36 (wayC 3 nm (xn, xs) a (lenF l) c none 0 0 0) (0, 0) _ rfl (box7_all HY2.out _ _ _ _ _ _ _) Try.underlying36 rfl Try.size36) rfl ?_
    have hB := sets7_below (B := w.heap.size + 1) HB2.out (by omega) (.int .i64 3) (.string nm) (.string xn) (.int .i64 xs) (.slice a (lenF l) c) (.slice none 0 0) (.int .i64 0)
    exact ⟨⟨_, rfl, ⟨a, c, none, 0, rfl, HT.out, fun _ => ⟨rfl, rfl⟩⟩⟩, hB⟩
  · go_enter Try.func41, Try.ntmps41
    go_wp2_with (first
      | (go_at_call 64; refine (HC.out _ HB0.out).mono ?_; rintro e w1 ⟨rfl, hb1⟩; have HB1 := hid (HB0.out.trans (hb1.mono HB0.out.size)); have Y1 := HY.out.below hb1; have HY1 := hid Y1; have r0 := Y1.c 0; have r1 := Y1.c 1; have r2 := Y1.c 2; have r3 := Y1.c 3; have r4 := Y1.c 4; have r5 := Y1.c 5; have r6 := Y1.c 6; have g0 := Y1.f 0; have g1 := Y1.f 1; have g2 := Y1.f 2; have g3 := Y1.f 3; have g4 := Y1.f 4; have g5 := Y1.f 5; have g6 := Y1.f 6; clear hb1 Y1))
    refine bodyPost_ret (results_cell_row rfl _ _ (w.heap.size + 1) 36 (wayC 2 noS (noS, 0) none 0 0 none 0 0 0) (0, 0) _ rfl (box7_all HY1.out _ _ _ _ _ _ _) Try.underlying36 rfl Try.size36) rfl ?_
    have hB := sets7_below (B := w.heap.size + 1) HB1.out (by omega) (.int .i64 2) (.string noS) (.string noS) (.int .i64 0) (.slice none 0 0) (.slice none 0 0) (.int .i64 0)
    exact ⟨⟨_, rfl, ⟨none, 0, none, 0, rfl, zT_at _, fun _ => ⟨rfl, rfl⟩⟩⟩, hB⟩

set_option maxRecDepth 100000 in
set_option maxHeartbeats 2000000 in
theorem ofVarsS_any (s t : Tn) (a b : Option Addr) (c d : Nat) (w0 w : World) (hS0 : TmAt w0 s.1 a c s.2) (hT0 : TmAt w0 t.1 b d t.2) (hw : SubW w0 w) :
    Calls Try.prog 40 #[.agg #[.string s.1.1, .int .i64 s.1.2, .slice a (lenF s.2) c], .agg #[.string t.1.1, .int .i64 t.1.2, .slice b (lenF t.2) d]] w fun e w' => (∃ v, e = .returned v ∧ WayAt w0 v (ofVarsP s t)) ∧ Below w.heap.size w w' := by
  have hS := hS0.kept hw
  have hT := hT0.kept hw
  obtain ⟨⟨xn, xs⟩, l⟩ := s
  obtain ⟨⟨yn, ys⟩, m⟩ := t
  obtain ⟨b1, b2, b3, hb0⟩ := three_new w #[.string xn, .int .i64 xs, .slice a (lenF l) c] 26 #[.string yn, .int .i64 ys, .slice b (lenF m) d] 26 zWay 36
  have HS := hid hS0; have HT := hid hT0
  have HC := hid fun (W : World) (hW : Below w.heap.size w W) => compare_all (nodesF l) (xn, xs) (yn, ys) a b c d l m W (Nat.le_refl _) (hS.below hW) (hT.below hW)
  obtain ⟨cv, hcv⟩ : ∃ cv, cmp1 (xn, xs) (yn, ys) (lenF l) (lenF m) (cmpF l m) = cv := ⟨_, rfl⟩
  have hcv' : cmpN ((xn, xs), l) ((yn, ys), m) = cv := hcv
  have HA := hid fun (W : World) => setTo_any xn (yn, ys) b (lenF m) d W
  have HD := hid fun (W : World) => setTo_any yn (xn, xs) a (lenF l) c W
  unfold ofVarsP
  rw [hcv']
  rw [hcv] at HC
  have HX := hid b1; have HY := hid b2; have HZ := hid b3; have HB0 := hid hb0
  clear hS hT hS0 hT0 hw b1 b2 b3 hb0 hcv hcv'
  dsimp only at *
  by_cases h0 : cv = 0
  · subst h0
    rw [if_pos rfl]
    go_enter Try.func40, Try.ntmps40
    go_wp2_with (first
      | (go_at_call 38; refine (HC.out _ HB0.out).mono ?_; rintro e w1 ⟨rfl, hg1⟩; have hb1 := hg1.below; have HB1 := hid (HB0.out.trans (hb1.mono HB0.out.size)); have Y1 := HZ.out.below hb1; have HY1 := hid Y1; have r0 := Y1.c 0; have r1 := Y1.c 1; have r2 := Y1.c 2; have r3 := Y1.c 3; have r4 := Y1.c 4; have r5 := Y1.c 5; have r6 := Y1.c 6; have g0 := Y1.f 0; have g1 := Y1.f 1; have g2 := Y1.f 2; have g3 := Y1.f 3; have g4 := Y1.f 4; have g5 := Y1.f 5; have g6 := Y1.f 6; clear hb1 Y1 hg1))
    refine bodyPost_ret (results_cell_row rfl _ _ (w.heap.size + 1 + 1) 36 (wayC 1 noS (noS, 0) none 0 0 none 0 0 0) (0, 0) _ rfl (box7_all HY1.out _ _ _ _ _ _ _) Try.underlying36 rfl Try.size36) rfl ?_
    have hB := sets7_below (B := w.heap.size + 1 + 1) HB1.out (by omega) (.int .i64 1) (.string noS) (.string noS) (.int .i64 0) (.slice none 0 0) (.slice none 0 0) (.int .i64 0)
    exact ⟨⟨_, rfl, ⟨none, 0, none, 0, rfl, zT_at _, fun _ => ⟨rfl, rfl⟩⟩⟩, hB⟩
  · rw [if_neg h0]
    have h0' : (cv == 0) = false := by simp [h0]
    by_cases h1 : cv = 1
    · subst h1
      rw [if_pos rfl]
      go_enter Try.func40, Try.ntmps40
      go_wp2_with (first
        | (go_at_call 38; refine (HC.out _ HB0.out).mono ?_; rintro e w1 ⟨rfl, hg1⟩; have hb1 := hg1.below; have HB1 := hid (HB0.out.trans (hb1.mono HB0.out.size)); have X1 := HX.out.below hb1; have Z1 := HY.out.below hb1; have HY1 := hid (HZ.out.below hb1); have z0 := X1.c 0; have z1 := X1.c 1; have z2 := X1.c 2; have q0 := Z1.c 0; have q1 := Z1.c 1; have q2 := Z1.c 2; clear hb1 X1 Z1 hg1)
        | (go_at_call 63; refine (HA.out _).mono ?_; rintro e w2 ⟨rfl, hb2⟩; have HB2 := hid (HB1.out.trans (hb2.mono HB1.out.size)); have Y2 := HY1.out.below hb2; have HY2 := hid Y2; have r0 := Y2.c 0; have r1 := Y2.c 1; have r2 := Y2.c 2; have r3 := Y2.c 3; have r4 := Y2.c 4; have r5 := Y2.c 5; have r6 := Y2.c 6; have g0 := Y2.f 0; have g1 := Y2.f 1; have g2 := Y2.f 2; have g3 := Y2.f 3; have g4 := Y2.f 4; have g5 := Y2.f 5; have g6 := Y2.f 6; clear hb2 Y2; unfold wayC))
      refine bodyPost_ret (results_cell_row rfl _ _ (w.heap.size + 1 + 1) 36 (wayC 3 xn (yn, ys) b (lenF m) d none 0 0 0) (0, 0) _ rfl (box7_all HY2.out _ _ _ _ _ _ _) Try.underlying36 rfl Try.size36) rfl ?_
      have hB := sets7_below (B := w.heap.size + 1 + 1) HB2.out (by omega) (.int .i64 3) (.string xn) (.string yn) (.int .i64 ys) (.slice b (lenF m) d) (.slice none 0 0) (.int .i64 0)
      exact ⟨⟨_, rfl, ⟨b, d, none, 0, rfl, HT.out, fun _ => ⟨rfl, rfl⟩⟩⟩, hB⟩
    · rw [if_neg h1]
      have h1' : (cv == 1) = false := by simp [h1]
      go_enter Try.func40, Try.ntmps40
      go_wp2_with (first
        | (go_at_call 38; refine (HC.out _ HB0.out).mono ?_; rintro e w1 ⟨rfl, hg1⟩; have hb1 := hg1.below; have HB1 := hid (HB0.out.trans (hb1.mono HB0.out.size)); have X1 := HX.out.below hb1; have Z1 := HY.out.below hb1; have HY1 := hid (HZ.out.below hb1); have z0 := X1.c 0; have z1 := X1.c 1; have z2 := X1.c 2; have q0 := Z1.c 0; have q1 := Z1.c 1; have q2 := Z1.c 2; clear hb1 X1 Z1 hg1)
        | (go_at_call 63; refine (HD.out _).mono ?_; rintro e w2 ⟨rfl, hb2⟩; have HB2 := hid (HB1.out.trans (hb2.mono HB1.out.size)); have Y2 := HY1.out.below hb2; have HY2 := hid Y2; have r0 := Y2.c 0; have r1 := Y2.c 1; have r2 := Y2.c 2; have r3 := Y2.c 3; have r4 := Y2.c 4; have r5 := Y2.c 5; have r6 := Y2.c 6; have g0 := Y2.f 0; have g1 := Y2.f 1; have g2 := Y2.f 2; have g3 := Y2.f 3; have g4 := Y2.f 4; have g5 := Y2.f 5; have g6 := Y2.f 6; clear hb2 Y2; unfold wayC))
      refine bodyPost_ret (results_cell_row rfl _ _ (w.heap.size + 1 + 1) 36 (wayC 3 yn (xn, xs) a (lenF l) c none 0 0 0) (0, 0) _ rfl (box7_all HY2.out _ _ _ _ _ _ _) Try.underlying36 rfl Try.size36) rfl ?_
      have hB := sets7_below (B := w.heap.size + 1 + 1) HB2.out (by omega) (.int .i64 3) (.string yn) (.string xn) (.int .i64 xs) (.slice a (lenF l) c) (.slice none 0 0) (.int .i64 0)
      exact ⟨⟨_, rfl, ⟨a, c, none, 0, rfl, HS.out, fun _ => ⟨rfl, rfl⟩⟩⟩, hB⟩

set_option maxRecDepth 100000 in
set_option maxHeartbeats 4000000 in
theorem sideBySideS_any (x y : ByteArray × Int) (l m : Fo) (a b : Option Addr) (c d : Nat) (wt w : World) (hS0 : TmAt wt x a c l) (hT0 : TmAt wt y b d m) (hw : SubW wt w) (hM : nodesF l ≤ 1048576) :
    Calls Try.prog 43 #[.slice a (lenF l) c, .slice b (lenF m) d] w fun e w' => (∃ v, e = .returned v ∧ LookAt w.heap.size wt w' v (sideP l m)) ∧ Below w.heap.size w w' := by
  have hS := hS0.kept hw
  have hT := hT0.kept hw
  obtain ⟨i0, hi, hz0, hz1, hz2⟩ := info_parts Try.info28
  have HS := hid hS0; have HT := hid hT0; have HW := hid hw
  have hln := len_nodes l
  have hB0 := hid (alloc_below0 w (.cells zWay 36))
  have HZ := hid (Box.new w 36 zWay)
  have hsl := hS.sizes.len; have hsc := hS.sizes.cap; have htl := hT.sizes.len; have htc := hT.sizes.cap
  have hmax : maxLen = 9223372036854775807 := rfl
  clear hS hT hS0 hT0 hw
  unfold sideP
  by_cases hne : lenF l = lenF m
  · rw [if_pos hne]
    have hnb : ((lenF l : Int) == (lenF m : Int)) = true := by simp [hne]
    have HNE := hid hne
    clear hne
    go_enter Try.func43, Try.ntmps43
    go_wp2_with (at_make; refine wpList_make_full _ rfl _ _ 34 rfl w.heap.size 28 i0 (.agg #[.string ⟨#[]⟩, .int .i64 0, .slice none 0 0, .string ⟨#[]⟩, .int .i64 0, .slice none 0 0]) 6 Try.underlying34 hi hz0 hz1 .i64 .i64 _ _ (lenF l) rfl rfl rfl rfl (by rw [hz2]; omega) (by omega) (by simp) ?_; intro w0 hown0 hgrow0)
    have E0 : Hid (EqRow w0 (w.heap.size + 1) (lenF l) []) := by
      rcases hown0.2 with ⟨hv, _⟩ | ⟨g', cap', cur, hv, _, hh, _, _, hcs, _⟩
      · cases hv
      · cases hv
        rw [World.size_alloc] at hh
        exact ⟨cur, hh, hcs, fun i u hu => by simp [kvCells] at hu⟩
    have B0 : Hid (Below w.heap.size w w0) := hid (hB0.out.grown hgrow0 (by simp) (fun k e => by cases e))
    have Z0 : Hid (Box w0 w.heap.size 36 zWay) := hid ((hgrow0.block _ (by simp) (by simp)).trans HZ.out)
    clear hown0 hgrow0 hB0 HZ
    go_loopw [18] (fun i wr => ∃ (j : Nat) (ks : List Kv), j ≤ lenF l ∧ i = .int .i64 j ∧ ks.length = 2 * j ∧ Below w.heap.size w wr ∧ Box wr w.heap.size 36 zWay ∧ EqRow wr (w.heap.size + 1) (lenF l) ks ∧ ks.map Kv.tn = flatL (((kidsL l).zip (kidsL m)).take j) ∧ ∀ k ∈ ks, TmAt wt k.x k.a k.c k.l) (fun i _ => lenF l - (intOf i).toNat)
    case atStart => exact ⟨0, [], Nat.zero_le _, rfl, rfl, B0.out, Z0.out, E0.out, by simp [flatL], by simp⟩
    case round =>
      obtain ⟨j, ks, hj, rfl, hkl, hb, hz, he, hks, htm⟩ := hrel
      have HB := hid hb; have HZ := hid hz; have HE := hid he; have HKS := hid hks; have HTM := hid htm; have HKL := hid hkl
      clear E0 B0 Z0 hks htm hkl
      by_cases hlt : j < lenF l
      · have hlm : j < lenF m := by have := HNE.out; omega
        obtain ⟨b1, o1, rfl, hk1⟩ := HS.out.args.get (by omega)
        obtain ⟨b2, o2, rfl, hk2⟩ := HT.out.args.get (by omega)
        obtain ⟨x1, a1, c1, l1, kd0⟩ := hk1.kid (k := j) hlt
        obtain ⟨x2, a2, c2, l2, ke0⟩ := hk2.kid (k := j) hlm
        have kd := kid_kept kd0 (HW.out.below hb)
        have ke := kid_kept ke0 (HW.out.below hb)
        have p0 : wr.drew.cell? ⟨b1, o1 + j * 3, none⟩ = _ := kd.name
        have p1 : wr.drew.cell? ⟨b1, o1 + j * 3 + 1, none⟩ = _ := kd.sym
        have p2 : wr.drew.cell? ⟨b1, o1 + j * 3 + 2, none⟩ = _ := kd.list
        have q0 : wr.drew.cell? ⟨b2, o2 + j * 3, none⟩ = _ := ke.name
        have q1 : wr.drew.cell? ⟨b2, o2 + j * 3 + 1, none⟩ = _ := ke.sym
        have q2 : wr.drew.cell? ⟨b2, o2 + j * 3 + 2, none⟩ = _ := ke.list
        obtain ⟨u0, v0⟩ := he.cell (i := j * 6) (by omega)
        obtain ⟨u1, v1⟩ := he.cell (i := j * 6 + 1) (by omega)
        obtain ⟨u2, v2⟩ := he.cell (i := j * 6 + 2) (by omega)
        obtain ⟨u3, v3⟩ := he.cell (i := j * 6 + 3) (by omega)
        obtain ⟨u4, v4⟩ := he.cell (i := j * 6 + 4) (by omega)
        obtain ⟨u5, v5⟩ := he.cell (i := j * 6 + 5) (by omega)
        have w0 : wr.drew.cell? ⟨w.heap.size + 1, j * 6, none⟩ = _ := v0
        have w1 : wr.drew.cell? ⟨w.heap.size + 1, j * 6 + 1, none⟩ = _ := v1
        have w2 : wr.drew.cell? ⟨w.heap.size + 1, j * 6 + 2, none⟩ = _ := v2
        have w3 : wr.drew.cell? ⟨w.heap.size + 1, j * 6 + 3, none⟩ = _ := v3
        have w4 : wr.drew.cell? ⟨w.heap.size + 1, j * 6 + 4, none⟩ = _ := v4
        have w5 : wr.drew.cell? ⟨w.heap.size + 1, j * 6 + 5, none⟩ = _ := v5
        have f0 : wr.drew.frozen? ⟨w.heap.size + 1, j * 6, none⟩ = false := he.frozen _
        have f1 : wr.drew.frozen? ⟨w.heap.size + 1, j * 6 + 1, none⟩ = false := he.frozen _
        have f2 : wr.drew.frozen? ⟨w.heap.size + 1, j * 6 + 2, none⟩ = false := he.frozen _
        have f3 : wr.drew.frozen? ⟨w.heap.size + 1, j * 6 + 3, none⟩ = false := he.frozen _
        have f4 : wr.drew.frozen? ⟨w.heap.size + 1, j * 6 + 4, none⟩ = false := he.frozen _
        have f5 : wr.drew.frozen? ⟨w.heap.size + 1, j * 6 + 5, none⟩ = false := he.frozen _
        have hk0 : (0 : Int) ≤ (j : Int) := by omega
        have hkn : (j : Int) < (lenF l : Int) := by omega
        have hkm : (j : Int) < (lenF m : Int) := by omega
        have e0 : wr.frozen? ⟨w.heap.size + 1, j * 6, none⟩ = false := he.frozen _
        have e1 : wr.frozen? ⟨w.heap.size + 1, j * 6 + 1, none⟩ = false := he.frozen _
        have e2 : wr.frozen? ⟨w.heap.size + 1, j * 6 + 2, none⟩ = false := he.frozen _
        have e3 : wr.frozen? ⟨w.heap.size + 1, j * 6 + 3, none⟩ = false := he.frozen _
        have e4 : wr.frozen? ⟨w.heap.size + 1, j * 6 + 4, none⟩ = false := he.frozen _
        have e5 : wr.frozen? ⟨w.heap.size + 1, j * 6 + 5, none⟩ = false := he.frozen _
        have NB : Hid (Below w.heap.size w (set6 wr (w.heap.size + 1) (j * 6) ⟨x1, l1, a1, c1⟩ ⟨x2, l2, a2, c2⟩).drew) := hid (set6_below hb (by omega) _ _ _).drew
        have nz : Box (set6 wr (w.heap.size + 1) (j * 6) ⟨x1, l1, a1, c1⟩ ⟨x2, l2, a2, c2⟩) w.heap.size 36 zWay := (set6_far (by omega) _ _ _).trans hz
        have NZ := hid nz.drew
        have NE := hid (EqRow.drew (he.push (o := j * 6) (by have := HKL.out; omega) (by omega) ⟨x1, l1, a1, c1⟩ ⟨x2, l2, a2, c2⟩))
        clear nz
        have NL : Hid ((ks ++ [(⟨x1, l1, a1, c1⟩ : Kv), ⟨x2, l2, a2, c2⟩]).length = 2 * (j + 1)) := hid (by rw [List.length_append, HKL.out]; rfl)
        have NK : Hid ((ks ++ [(⟨x1, l1, a1, c1⟩ : Kv), ⟨x2, l2, a2, c2⟩]).map Kv.tn = flatL (((kidsL l).zip (kidsL m)).take (j + 1))) := hid (by
          rw [List.map_append, HKS.out, zip_take (kid_at kd) (kid_at ke), flat_snoc]; rfl)
        have NT : Hid (∀ k ∈ ks ++ [(⟨x1, l1, a1, c1⟩ : Kv), ⟨x2, l2, a2, c2⟩], TmAt wt k.x k.a k.c k.l) := hid (fun k hk => by
          rcases List.mem_append.1 hk with hk | hk
          · exact HTM.out k hk
          · simp only [List.mem_cons, List.not_mem_nil, or_false] at hk
            rcases hk with rfl | rfl
            · exact kd0.at_
            · exact ke0.at_)
        clear hb hz he kd ke kd0 ke0 hk1 hk2
        go_upto_region 7 with fail
        go_region
        all_goals
          go_wp2_with fail
          go_roundw
          case rel =>
            exact ⟨j + 1, ks ++ [(⟨x1, l1, a1, c1⟩ : Kv), ⟨x2, l2, a2, c2⟩], by omega, by go_num, NL.out, NB.out, NZ.out, NE.out, NK.out, NT.out⟩
          case measure => simp [intOf]; omega
      · have e1 : j = lenF l := by omega
        have r0 := hz.c 0; have r1 := hz.c 1; have r2 := hz.c 2; have r3 := hz.c 3; have r4 := hz.c 4; have r5 := hz.c 5; have r6 := hz.c 6
        have g0 := hz.f 0; have g1 := hz.f 1; have g2 := hz.f 2; have g3 := hz.f 3; have g4 := hz.f 4; have g5 := hz.f 5; have g6 := hz.f 6
        have hzl : ((kidsL l).zip (kidsL m)).length = lenF l := by rw [List.length_zip, kids_len, kids_len, ← HNE.out]; simp
        have HZL := hid hzl
        have hfull : ks.map Kv.tn = flatL ((kidsL l).zip (kidsL m)) := by rw [HKS.out, List.take_of_length_le (by omega)]
        have HF := hid hfull
        have HJ := hid hlt
        have HE1 := hid e1
        clear hb hz he hzl hfull e1
        go_wp2_with fail
        refine bodyPost_ret (results_cell_row rfl _ _ w.heap.size 36 (wayC 4 noS (noS, 0) none 0 0 (some ⟨w.heap.size + 1, 0, none⟩) (lenF l) (lenF l) 0) (0, 0) _ rfl (box7_all HZ.out _ _ _ _ _ _ _) Try.underlying36 rfl Try.size36) rfl ?_
        have hB := sets7_below (B := w.heap.size) HB.out (by omega) (.int .i64 4) (.string noS) (.string noS) (.int .i64 0) (.slice none 0 0) (.slice (some ⟨w.heap.size + 1, 0, none⟩) (lenF l) (lenF l)) (.int .i64 0)
        have hE := HE.out.keep (sets7_far (W := wr) (B := w.heap.size) (q := w.heap.size + 1) (by omega) (.int .i64 4) (.string noS) (.string noS) (.int .i64 0) (.slice none 0 0) (.slice (some ⟨w.heap.size + 1, 0, none⟩) (lenF l) (lenF l)) (.int .i64 0))
        refine ⟨⟨_, rfl, ⟨⟨(noS, 0), .nil, none, 0⟩, ks, some ⟨w.heap.size + 1, 0, none⟩, lenF l, ?_, rfl, zT_at _, HF.out, HTM.out, .inr ⟨w.heap.size + 1, rfl, by omega, by rw [HZL.out], by rw [HZL.out]; exact hE⟩⟩⟩, hB⟩
        rw [HZL.out]; rfl
  · rw [if_neg hne]
    have hnb : ((lenF l : Int) == (lenF m : Int)) = false := by simp; omega
    clear hne
    go_enter Try.func43, Try.ntmps43
    go_wp2_with fail
    refine bodyPost_ret (results_cell_row rfl _ _ w.heap.size 36 (wayC 2 noS (noS, 0) none 0 0 none 0 0 0) (0, 0) _ rfl (Box.new w 36 _) Try.underlying36 rfl Try.size36) rfl ?_
    exact ⟨⟨_, rfl, WayAt.look (W := actW 2) ⟨none, 0, none, 0, rfl, zT_at _, fun _ => ⟨rfl, rfl⟩⟩ rfl⟩, alloc_below0 w _⟩

set_option maxRecDepth 100000 in
set_option maxHeartbeats 4000000 in
theorem lookS_any (S : Option Addr) (n cap : Nat) (sg : List Sym) (s t : Tn) (a b : Option Addr) (c d : Nat) (wt w : World) (hG : SigAt w S n sg) (hS : TmAt wt s.1 a c s.2) (hT : TmAt wt t.1 b d t.2) (hw : SubW wt w) (hM : nodesF s.2 ≤ 1048576) (hN : nodesF t.2 ≤ 1048576) :
    Calls Try.prog 21 #[.slice S n cap, .agg #[.string s.1.1, .int .i64 s.1.2, .slice a (lenF s.2) c, .string t.1.1, .int .i64 t.1.2, .slice b (lenF t.2) d]] w fun e w' => (∃ v, e = .returned v ∧ LookAt w.heap.size wt w' v (lookP sg s t)) ∧ Below w.heap.size w w' := by
  obtain ⟨⟨xn, xs⟩, l⟩ := s
  obtain ⟨⟨yn, ys⟩, m⟩ := t
  dsimp only at *
  obtain ⟨b1, b2, hb0⟩ := two_new w #[.string xn, .int .i64 xs, .slice a (lenF l) c, .string yn, .int .i64 ys, .slice b (lenF m) d] 28 zWay 36
  have HG := hid hG; have HS := hid hS; have HT := hid hT; have HW := hid hw
  have HR := hid b2; have HB0 := hid hb0
  have hsz : Hid (((w.alloc (.cells #[.string xn, .int .i64 xs, .slice a (lenF l) c, .string yn, .int .i64 ys, .slice b (lenF m) d] 28)).alloc (.cells zWay 36)).heap.size = w.heap.size + 2) := hid (by simp)
  have c0 : ((w.alloc (.cells #[.string xn, .int .i64 xs, .slice a (lenF l) c, .string yn, .int .i64 ys, .slice b (lenF m) d] 28)).alloc (.cells zWay 36)).cell? ⟨w.heap.size, 0, none⟩ = some (.string xn) := b1.c 0
  have c1 : ((w.alloc (.cells #[.string xn, .int .i64 xs, .slice a (lenF l) c, .string yn, .int .i64 ys, .slice b (lenF m) d] 28)).alloc (.cells zWay 36)).cell? ⟨w.heap.size, 1, none⟩ = some (.int .i64 xs) := b1.c 1
  have c2 : ((w.alloc (.cells #[.string xn, .int .i64 xs, .slice a (lenF l) c, .string yn, .int .i64 ys, .slice b (lenF m) d] 28)).alloc (.cells zWay 36)).cell? ⟨w.heap.size, 2, none⟩ = some (.slice a (lenF l) c) := b1.c 2
  have c3 : ((w.alloc (.cells #[.string xn, .int .i64 xs, .slice a (lenF l) c, .string yn, .int .i64 ys, .slice b (lenF m) d] 28)).alloc (.cells zWay 36)).cell? ⟨w.heap.size, 3, none⟩ = some (.string yn) := b1.c 3
  have c4 : ((w.alloc (.cells #[.string xn, .int .i64 xs, .slice a (lenF l) c, .string yn, .int .i64 ys, .slice b (lenF m) d] 28)).alloc (.cells zWay 36)).cell? ⟨w.heap.size, 4, none⟩ = some (.int .i64 ys) := b1.c 4
  have c5 : ((w.alloc (.cells #[.string xn, .int .i64 xs, .slice a (lenF l) c, .string yn, .int .i64 ys, .slice b (lenF m) d] 28)).alloc (.cells zWay 36)).cell? ⟨w.heap.size, 5, none⟩ = some (.slice b (lenF m) d) := b1.c 5
  obtain ⟨V, hV⟩ : ∃ V, lookP sg ((xn, xs), l) ((yn, ys), m) = V := ⟨_, rfl⟩
  rw [hV]
  have HVV := hid hV
  clear hG hS hT hw b1 b2 hb0 hV
  go_enter Try.func21, Try.ntmps21
  go_upto_region 1 with fail
  go_cut [5, 6] (fun p q W => ∃ B5 B6, p = .pointer (some ⟨B5, 0, none⟩) ∧ q = .pointer (some ⟨B6, 0, none⟩) ∧ LkBox w ((xn, xs), l) ((yn, ys), m) a b c d B5 B6 W)
  case first =>
    go_region
    all_goals (go_wp2_with fail; go_meet)
    all_goals first
      | exact ⟨_, _, rfl, rfl, lk_one HB0.out HR.out hsz.out⟩
      | exact ⟨_, _, rfl, rfl, lk_two HB0.out HR.out hsz.out⟩
  case rest =>
    obtain ⟨B5, B6, rfl, rfl, hk⟩ := hcut
    have HK := hid hk
    have p0 := hk.l.c0; have p1 := hk.l.c1; have p2 := hk.l.c2
    have q0 := hk.r.c0; have q1 := hk.r.c1; have q2 := hk.r.c2
    dsimp only at p0 p1 p2 q0 q1 q2
    have hWW := HW.out.below hk.low
    have H40 := hid (ofVarsS_any ((xn, xs), l) ((yn, ys), m) a b c d wt wc HS.out HT.out hWW)
    have H41 := hid (ofVarS_any xn ((yn, ys), m) b d wt wc HT.out hWW hN)
    have H41' := hid (ofVarS_any yn ((xn, xs), l) a c wt wc HS.out hWW hM)
    have H42 := hid (isFree_any S n cap sg xs wc (HG.out.below hk.low))
    have H43 := hid (sideBySideS_any (xn, xs) (yn, ys) l m a b c d wt wc HS.out HT.out hWW hM)
    clear hk c0 c1 c2 c3 c4 c5 HR HB0 hsz hWW
    dsimp only at *
    cases hx : xn.toList.isEmpty
    · have ex : noName xn = false := hx
      cases hy : yn.toList.isEmpty
      · have ey : noName yn = false := hy
        have HVE : Hid (V = ofVarsP ((xn, xs), l) ((yn, ys), m)) := hid (by rw [← HVV.out]; unfold lookP; simp [ex, ey])
        clear ex ey
        go_wp2_with (first
          | (go_at_call 40; refine (H40.out).mono ?_; rintro e w2 ⟨⟨v, rfl, hv⟩, hb2⟩; have HV := hid (hv.look (base := w.heap.size + 2) (w := w2) (ofVars_none _ _)); have HB2 := hid (HK.out.low.trans (hb2.mono HK.out.low.size)); have Y2 := HK.out.res.below hb2; have HR2 := hid Y2; obtain ⟨tk, ks, la, lc, rfl, hrest⟩ := HV.out.is; have HREST := hid hrest; have r0 := Y2.c 0; have r1 := Y2.c 1; have r2 := Y2.c 2; have r3 := Y2.c 3; have r4 := Y2.c 4; have r5 := Y2.c 5; have r6 := Y2.c 6; have g0 := Y2.f 0; have g1 := Y2.f 1; have g2 := Y2.f 2; have g3 := Y2.f 3; have g4 := Y2.f 4; have g5 := Y2.f 5; have g6 := Y2.f 6; clear hb2 Y2 hrest hv p0 p1 p2 q0 q1 q2; unfold wayC))
        refine bodyPost_ret (results_cell_row rfl _ _ (w.heap.size + 1) 36 (wayC _ _ _ _ _ _ _ _ _ _) (0, 0) _ rfl (box7_all HR2.out _ _ _ _ _ _ _) Try.underlying36 rfl Try.size36) rfl ?_
        exact look_end HB2.out (by rw [HVE.out]; exact HV.out)
      · have ey : noName yn = true := hy
        have HVE : Hid (V = ofVarP xn ((yn, ys), m)) := hid (by rw [← HVV.out]; unfold lookP; simp [ex, ey])
        clear ex ey
        go_wp2_with (first
          | (go_at_call 41; refine (H41.out).mono ?_; rintro e w2 ⟨⟨v, rfl, hv⟩, hb2⟩; have HV := hid (hv.look (base := w.heap.size + 2) (w := w2) (ofVar_none _ _)); have HB2 := hid (HK.out.low.trans (hb2.mono HK.out.low.size)); have Y2 := HK.out.res.below hb2; have HR2 := hid Y2; obtain ⟨tk, ks, la, lc, rfl, hrest⟩ := HV.out.is; have HREST := hid hrest; have r0 := Y2.c 0; have r1 := Y2.c 1; have r2 := Y2.c 2; have r3 := Y2.c 3; have r4 := Y2.c 4; have r5 := Y2.c 5; have r6 := Y2.c 6; have g0 := Y2.f 0; have g1 := Y2.f 1; have g2 := Y2.f 2; have g3 := Y2.f 3; have g4 := Y2.f 4; have g5 := Y2.f 5; have g6 := Y2.f 6; clear hb2 Y2 hrest hv p0 p1 p2 q0 q1 q2; unfold wayC))
        refine bodyPost_ret (results_cell_row rfl _ _ (w.heap.size + 1) 36 (wayC _ _ _ _ _ _ _ _ _ _) (0, 0) _ rfl (box7_all HR2.out _ _ _ _ _ _ _) Try.underlying36 rfl Try.size36) rfl ?_
        exact look_end HB2.out (by rw [HVE.out]; exact HV.out)
    · have ex : noName xn = true := hx
      cases hy : yn.toList.isEmpty
      · have ey : noName yn = false := hy
        have HVE : Hid (V = ofVarP yn ((xn, xs), l)) := hid (by rw [← HVV.out]; unfold lookP; simp [ex, ey])
        clear ex ey
        go_wp2_with (first
          | (go_at_call 41; refine (H41'.out).mono ?_; rintro e w2 ⟨⟨v, rfl, hv⟩, hb2⟩; have HV := hid (hv.look (base := w.heap.size + 2) (w := w2) (ofVar_none _ _)); have HB2 := hid (HK.out.low.trans (hb2.mono HK.out.low.size)); have Y2 := HK.out.res.below hb2; have HR2 := hid Y2; obtain ⟨tk, ks, la, lc, rfl, hrest⟩ := HV.out.is; have HREST := hid hrest; have r0 := Y2.c 0; have r1 := Y2.c 1; have r2 := Y2.c 2; have r3 := Y2.c 3; have r4 := Y2.c 4; have r5 := Y2.c 5; have r6 := Y2.c 6; have g0 := Y2.f 0; have g1 := Y2.f 1; have g2 := Y2.f 2; have g3 := Y2.f 3; have g4 := Y2.f 4; have g5 := Y2.f 5; have g6 := Y2.f 6; clear hb2 Y2 hrest hv p0 p1 p2 q0 q1 q2; unfold wayC))
        refine bodyPost_ret (results_cell_row rfl _ _ (w.heap.size + 1) 36 (wayC _ _ _ _ _ _ _ _ _ _) (0, 0) _ rfl (box7_all HR2.out _ _ _ _ _ _ _) Try.underlying36 rfl Try.size36) rfl ?_
        exact look_end HB2.out (by rw [HVE.out]; exact HV.out)
      · have ey : noName yn = true := hy
        by_cases hsy : xs = ys
        · subst hsy
          have hne : (xs != xs) = false := by simp
          cases hfr : freeB sg xs
          · have HVE : Hid (V = ⟨5, noS, zT, [], xs⟩) := hid (by rw [← HVV.out]; unfold lookP; simp [ex, ey, hfr])
            have HFR := hid hfr
            have Y2 := HK.out.res
            have r0 := Y2.c 0; have r1 := Y2.c 1; have r2 := Y2.c 2; have r3 := Y2.c 3; have r4 := Y2.c 4; have r5 := Y2.c 5; have r6 := Y2.c 6; have g0 := Y2.f 0; have g1 := Y2.f 1; have g2 := Y2.f 2; have g3 := Y2.f 3; have g4 := Y2.f 4; have g5 := Y2.f 5; have g6 := Y2.f 6
            clear ex ey hfr Y2
            go_wp2_with (go_at_call 42; refine H42.out.mono ?_; rintro e w3 ⟨rfl, rfl⟩; rw [HFR.out])
            refine bodyPost_ret (results_cell_row rfl _ _ (w.heap.size + 1) 36 (wayC 5 noS (noS, 0) none 0 0 none 0 0 xs) (0, 0) _ rfl (box7_all HK.out.res _ _ _ _ _ _ _) Try.underlying36 rfl Try.size36) rfl ?_
            exact look_end HK.out.low (by rw [HVE.out]; exact WayAt.look (W := ⟨5, noS, zT, [], xs⟩) ⟨none, 0, none, 0, rfl, zT_at _, fun _ => ⟨rfl, rfl⟩⟩ rfl)
          · have HVE : Hid (V = sideP l m) := hid (by rw [← HVV.out]; unfold lookP; simp [ex, ey, hfr])
            have HFR := hid hfr
            have HSZ2 : Hid (w.heap.size + 2 ≤ wc.heap.size) := hid (by have := HK.out.l.lt; have := HK.out.far; omega)
            clear ex ey hfr
            go_wp2_with (first
              | (go_at_call 42; refine H42.out.mono ?_; rintro e w3 ⟨rfl, rfl⟩; rw [HFR.out])
              | (go_at_call 43; refine (H43.out).mono ?_; rintro e w2 ⟨⟨v, rfl, hv⟩, hb2⟩; have HV := hid (hv.mono (base' := w.heap.size + 2) HSZ2.out); have HB2 := hid (HK.out.low.trans (hb2.mono HK.out.low.size)); have Y2 := HK.out.res.below hb2; have HR2 := hid Y2; obtain ⟨tk, ks, la, lc, rfl, hrest⟩ := HV.out.is; have r0 := Y2.c 0; have r1 := Y2.c 1; have r2 := Y2.c 2; have r3 := Y2.c 3; have r4 := Y2.c 4; have r5 := Y2.c 5; have r6 := Y2.c 6; have g0 := Y2.f 0; have g1 := Y2.f 1; have g2 := Y2.f 2; have g3 := Y2.f 3; have g4 := Y2.f 4; have g5 := Y2.f 5; have g6 := Y2.f 6; clear hb2 Y2 hrest hv p0 p1 p2 q0 q1 q2; unfold wayC))
            refine bodyPost_ret (results_cell_row rfl _ _ (w.heap.size + 1) 36 (wayC _ _ _ _ _ _ _ _ _ _) (0, 0) _ rfl (box7_all HR2.out _ _ _ _ _ _ _) Try.underlying36 rfl Try.size36) rfl ?_
            exact look_end HB2.out (by rw [HVE.out]; exact HV.out)
        · have hne : (xs != ys) = true := by simp [hsy]
          have HVE : Hid (V = actW 2) := hid (by rw [← HVV.out]; unfold lookP; simp [ex, ey, hsy])
          have Y2 := HK.out.res
          have r0 := Y2.c 0; have r1 := Y2.c 1; have r2 := Y2.c 2; have r3 := Y2.c 3; have r4 := Y2.c 4; have r5 := Y2.c 5; have r6 := Y2.c 6; have g0 := Y2.f 0; have g1 := Y2.f 1; have g2 := Y2.f 2; have g3 := Y2.f 3; have g4 := Y2.f 4; have g5 := Y2.f 5; have g6 := Y2.f 6
          clear ex ey Y2
          go_wp2_with fail
          refine bodyPost_ret (results_cell_row rfl _ _ (w.heap.size + 1) 36 (wayC 2 noS (noS, 0) none 0 0 none 0 0 0) (0, 0) _ rfl (box7_all HK.out.res _ _ _ _ _ _ _) Try.underlying36 rfl Try.size36) rfl ?_
          exact look_end HK.out.low (by rw [HVE.out]; exact WayAt.look (W := actW 2) ⟨none, 0, none, 0, rfl, zT_at _, fun _ => ⟨rfl, rfl⟩⟩ rfl)

end Go.Proofs.Ytfnfbljijkjkjaa
/- Free of the program: what its loop keeps. -/
namespace Go.Proofs.Ytfnfbljijkjkjaa
open Go.RowKit Go.Shelf Go.Deep

def tn2 (p : Eq2) : Tn × Tn := (p.1.tn, p.2.tn)
theorem unflat : ∀ (m : Nat) (ks : List Kv), ks.length = 2 * m → ∃ P : List Eq2, ks = flatK P ∧ P.length = m
  | 0, ks, h => ⟨[], List.eq_nil_of_length_eq_zero (by omega), rfl⟩
  | m + 1, [], h => by simp at h
  | m + 1, [_], h => by simp at h; omega
  | m + 1, a :: b :: r, h => by
    obtain ⟨P, h1, h2⟩ := unflat m r (by simp only [List.length_cons] at h; omega)
    exact ⟨(a, b) :: P, by rw [h1]; rfl, by rw [List.length_cons, h2]⟩
theorem flatK_tn (P : List Eq2) : (flatK P).map Kv.tn = flatL (P.map tn2) := by
  induction P with
  | nil => rfl
  | cons p r ih =>
    have e : flatK (p :: r) = p.1 :: p.2 :: flatK r := rfl
    have e2 : flatL ((p :: r).map tn2) = p.1.tn :: p.2.tn :: flatL (r.map tn2) := rfl
    rw [e, e2, List.map_cons, List.map_cons, ih]
theorem flatL_inj : ∀ {l m : List (Tn × Tn)}, flatL l = flatL m → l = m
  | [], [], _ => rfl
  | [], q :: m, h => by
    have e : flatL (q :: m) = q.1 :: q.2 :: flatL m := rfl
    rw [e] at h; cases h
  | p :: l, [], h => by
    have e : flatL (p :: l) = p.1 :: p.2 :: flatL l := rfl
    rw [e] at h; cases h
  | p :: l, q :: m, h => by
    have e : flatL (p :: l) = p.1 :: p.2 :: flatL l := rfl
    have e2 : flatL (q :: m) = q.1 :: q.2 :: flatL m := rfl
    rw [e, e2] at h
    obtain ⟨h1, h2⟩ := List.cons.inj h
    obtain ⟨h3, h4⟩ := List.cons.inj h2
    rw [flatL_inj h4, show p = q from Prod.ext h1 h3]
theorem flatL_map (f : Tn → Tn) (l : List (Tn × Tn)) : (flatL l).map f = flatL (l.map fun p => (f p.1, f p.2)) := by
  induction l with
  | nil => rfl
  | cons p r ih =>
    have e : flatL (p :: r) = p.1 :: p.2 :: flatL r := rfl
    have e2 : flatL ((p :: r).map fun p => (f p.1, f p.2)) = f p.1 :: f p.2 :: flatL (r.map fun p => (f p.1, f p.2)) := rfl
    rw [e, e2, List.map_cons, List.map_cons, ih]
/-- The sides with a variable put in, as equations again. -/
theorem put_eqs {r : List Eq2} {es' : List Kv} {nm : ByteArray} {T : Tn} (h : es'.map Kv.tn = (flatK r.reverse).map (fun k => w1T nm T k.tn)) : ∃ st : List Eq2, es' = flatK st.reverse ∧ st.map tn2 = putS nm T (r.map tn2) ∧ st.length = r.length := by
  have hl := congrArg List.length h
  rw [List.length_map, List.length_map, flatK_len, List.length_reverse] at hl
  obtain ⟨Q, h1, h2⟩ := unflat r.length es' hl
  subst h1
  refine ⟨Q.reverse, by rw [List.reverse_reverse], ?_, by rw [List.length_reverse, h2]⟩
  have e : (flatK r.reverse).map (fun k => w1T nm T k.tn) = ((flatK r.reverse).map Kv.tn).map (w1T nm T) := by rw [List.map_map]; rfl
  rw [e, flatK_tn, flatK_tn, flatL_map] at h
  have h3 := flatL_inj h
  rw [List.map_reverse, h3, List.map_reverse, ← List.map_reverse, List.reverse_reverse]
  rfl
theorem room_eqs (nm : ByteArray) (T : Tn) (r : List Eq2) (bs : List Bk) : roomAll nm T (flatK r.reverse) bs = roomS nm T (r.map tn2) (bs.map btn) := by
  unfold roomAll roomS
  congr 1
  · have e : ∀ r : List Eq2, (flatK r).all (roomK nm ((nodesF T.2 : Int) + 1)) = (r.map tn2).all fun p => roomT nm T p.1 && roomT nm T p.2 := by
      intro r
      induction r with
      | nil => rfl
      | cons p r ih =>
        have e : flatK (p :: r) = p.1 :: p.2 :: flatK r := rfl
        rw [e, List.all_cons, List.all_cons, ih, List.map_cons, List.all_cons, Bool.and_assoc]
        rfl
    rw [e, List.map_reverse, List.all_reverse]
  · rw [List.all_map]
    rfl
theorem put_binds {bs bs' : List Bk} {nm : ByteArray} {T : Tn} (h : bs'.map btn = bs.map (fun b => (b.1, w1T nm T b.2.tn)) ++ [(nm, T)]) : bs'.map btn = putB nm T (bs.map btn) ++ [(nm, T)] := by
  rw [h]
  unfold putB
  rw [List.map_map]
  rfl
theorem least_p (p : Nat → Prop) : ∀ n, p n → ∃ k, p k ∧ ∀ m, p m → k ≤ m := by
  classical
  intro n
  induction n using Nat.strongRecOn with
  | _ n ih =>
    intro hn
    by_cases h : ∃ m, m < n ∧ p m
    · obtain ⟨m, hm, hp⟩ := h
      exact ih m hm hp
    · exact ⟨n, hn, fun m hm => Nat.le_of_not_lt fun hlt => h ⟨m, hlt, hm⟩⟩
theorem count_of (I : Nat → World → Prop) : ∃ mu : World → Nat, ∀ W f, I f W → I (mu W) W ∧ mu W ≤ f := by
  classical
  refine ⟨fun W => if h : ∃ k, I k W ∧ ∀ m, I m W → k ≤ m then Classical.choose h else 0, fun W f hf => ?_⟩
  have h := least_p (fun k => I k W) f hf
  dsimp only
  rw [dif_pos h]
  exact ⟨(Classical.choose_spec h).1, (Classical.choose_spec h).2 f hf⟩
/-- What Free's loop keeps. -/
structure FSt (sg : List Sym) (R : Int × List Bn) (w : World) (B f : Nat) (W : World) : Prop where
  is : ∃ (st : List Eq2) (bs : List Bk) (v1 v2 : Value), FInv sg R f (st.map tn2) (bs.map btn) ∧ Sv w B v1 v2 st.length (flatK st.reverse) bs W ∧ ∀ b ∈ bs, b.1.size ≤ maxLen
def ToldOk : Prop := ∀ (w0 : World) (B : Nat) (v1 v2 : Value) (n : Nat) (es : List Kv) (bs : List Bk) (W : World), Sv w0 B v1 v2 n es bs W → bs.length ≤ 1048576 → (∀ b ∈ bs, b.1.size ≤ maxLen) →
  Calls Try.prog 33 #[.pointer (some ⟨B, 1, none⟩)] W fun e W' => ∃ p c ms, e = .returned (.slice p ms.length c) ∧ BindsAt W' p ms.length ms ∧ List.Perm ms (bs.map btn) ∧ ms.Pairwise (fun x y => 0 ≤ Lib.compareBytes y.1.data.toList x.1.data.toList) ∧ Below w0.heap.size w0 W'
def af2 (sg : List Sym) (p : Eq2) : Bool := afT sg p.1.x p.1.l && afT sg p.2.x p.2.l
/-- What Free leaves. -/
def FreeEnd (sg : List Sym) (P : List Eq2) (w : World) (e : Ending) (w' : World) : Prop := Below w.heap.size w w' ∧
  ((P.all (af2 sg) = false ∧ e = .returned (.tuple #[.slice none 0 0, .bool false, .int .i64 1])) ∨
   (P.all (af2 sg) = true ∧ ∃ f R, freeF sg f (P.map tn2) [] = some R ∧
     ((R = (1, []) ∧ e = .returned (.tuple #[.slice none 0 0, .bool false, .int .i64 0])) ∨ (R = (2, []) ∧ e = .returned (.tuple #[.slice none 0 0, .bool false, .int .i64 73])) ∨
      (∃ bs p c ms, R = (0, bs) ∧ e = .returned (.tuple #[.slice p ms.length c, .bool true, .int .i64 0]) ∧ BindsAt w' p ms.length ms ∧ List.Perm ms bs ∧ ms.Pairwise (fun x y => 0 ≤ Lib.compareBytes y.1.data.toList x.1.data.toList) ∧ bs.length ≤ 1048576))))
/-- Equations that are not too many. -/
def sizeP (P : List Eq2) : Nat := (P.map fun p => nodesF p.1.l + nodesF p.2.l + 3).sum
theorem nmF_len : ∀ F : Fo, (nmF F).length ≤ nodesF F
  | .nil => Nat.le_refl _
  | .node _ _ x l r => by
    have h1 := nmF_len l
    have h2 := nmF_len r
    rw [nmF, List.length_append, List.length_append, nodesF]
    split <;> simp only [List.length_nil, List.length_cons] <;> omega
theorem nmT_len (t : Tn) : (nmT t).length ≤ nodesF t.2 + 1 := by
  have h1 := nmF_len t.2
  unfold nmT
  rw [List.length_append]
  split <;> simp only [List.length_nil, List.length_cons] <;> omega
def allNm (P : List Eq2) : List ByteArray := P.flatMap fun p => nmT p.1.tn ++ nmT p.2.tn
theorem allNm_len : ∀ P : List Eq2, (allNm P).length ≤ sizeP P
  | [] => Nat.le_refl _
  | p :: r => by
    have ih := allNm_len r
    have h1 := nmT_len p.1.tn
    have h2 := nmT_len p.2.tn
    have e : allNm (p :: r) = (nmT p.1.tn ++ nmT p.2.tn) ++ allNm r := rfl
    have e2 : sizeP (p :: r) = (nodesF p.1.l + nodesF p.2.l + 3) + sizeP r := by simp [sizeP]
    rw [e, e2, List.length_append, List.length_append]
    have e3 : nodesF p.1.tn.2 = nodesF p.1.l := rfl
    have e4 : nodesF p.2.tn.2 = nodesF p.2.l := rfl
    omega
theorem sizeP_len : ∀ P : List Eq2, 3 * P.length ≤ sizeP P
  | [] => Nat.le_refl _
  | p :: r => by
    have ih := sizeP_len r
    have e2 : sizeP (p :: r) = (nodesF p.1.l + nodesF p.2.l + 3) + sizeP r := by simp [sizeP]
    rw [e2, List.length_cons]
    omega
theorem sizeP_mem : ∀ {P : List Eq2} {p : Eq2}, p ∈ P → nodesF p.1.l + nodesF p.2.l + 3 ≤ sizeP P
  | [], _, h => by cases h
  | q :: r, p, h => by
    have e2 : sizeP (q :: r) = (nodesF q.1.l + nodesF q.2.l + 3) + sizeP r := by simp [sizeP]
    rw [e2]
    rcases List.mem_cons.1 h with rfl | h
    · omega
    · have := sizeP_mem h; omega
theorem dp_first {M : Nat} : ∀ {P : List Eq2}, P.length + sizeP P ≤ M → DpOk M (P.map tn2)
  | [], _ => trivial
  | p :: r, h => by
    have e2 : sizeP (p :: r) = (nodesF p.1.l + nodesF p.2.l + 3) + sizeP r := by simp [sizeP]
    rw [e2, List.length_cons] at h
    refine ⟨?_, dp_first (by omega)⟩
    show (r.map tn2).length + 1 + nodesF p.1.l ≤ M
    rw [List.length_map]
    omega
theorem free_first {sg : List Sym} {P : List Eq2} (hok : ∀ p ∈ P, okT p.1.tn ∧ okT p.2.tn) (hs : sizeP P ≤ 1048576) : ∃ f R, freeF sg f (P.map tn2) [] = some R ∧ FInv sg R f (P.map tn2) [] := by
  have hl := sizeP_len P
  have hg : GoodS (allNm P) 2097152 (P.map tn2) := by
    refine ⟨fun q hq => ?_, fun q hq => ?_, fun q hq => ?_, dp_first (by omega)⟩
    all_goals obtain ⟨p, hp, rfl⟩ := List.mem_map.1 hq
    · exact hok p hp
    · exact ⟨fun s h => List.mem_flatMap.2 ⟨p, hp, List.mem_append_left _ h⟩, fun s h => List.mem_flatMap.2 ⟨p, hp, List.mem_append_right _ h⟩⟩
    · have := sizeP_mem hp
      show nodesF p.1.l ≤ _ ∧ nodesF p.2.l ≤ _
      omega
  obtain ⟨f, hf⟩ := free_ends sg _ (allNm P) (Nat.le_refl _) _ _ _ [] hg (Nat.le_refl _)
  obtain ⟨R, hR⟩ := Option.isSome_iff_exists.1 hf
  have := allNm_len P
  exact ⟨f, R, hR, hR, ⟨_, _, hg, by omega, by simp only [List.length_nil]; omega⟩, fun b hb => by cases hb⟩
end Go.Proofs.Ytfnfbljijkjkjaa
/- Free of the program, whole. -/
namespace Go.Proofs.Ytfnfbljijkjkjaa
open Go.RowKit Go.Shelf Go.Deep

theorem all_cut {α : Type} {f : α → Bool} {l : List α} {j : Nat} (hj : j < l.length) (h : f l[j] = false) : l.all f = false := all_no hj h
/-- One equation that is taken out, looked at and dealt with. -/
theorem eqs_row {W : World} {g : Nat} {ks : List Kv} {m : Nat} (h : EqRow W g m ks) {P : List Eq2} (hk : ks = flatK P) : EqsAt W (some ⟨g, 0, none⟩) P := fun i hi => by
  obtain ⟨f1, f2⟩ := flatK_at P i hi
  have hl : (flatK P).length = 2 * P.length := flatK_len P
  obtain ⟨l1, e1⟩ := List.getElem?_eq_some_iff.1 f1
  obtain ⟨l2, e2⟩ := List.getElem?_eq_some_iff.1 f2
  have a1 := kv_at (flatK P) (2 * i) l1
  have a2 := kv_at (flatK P) (2 * i + 1) l2
  rw [e1, show 2 * i * 3 = i * 6 by omega] at a1
  rw [e2, show (2 * i + 1) * 3 = i * 6 + 3 by omega, show i * 6 + 3 + 1 = i * 6 + 4 by omega, show i * 6 + 3 + 2 = i * 6 + 5 by omega] at a2
  subst hk
  refine ⟨g, 0, rfl, ?_⟩
  simp only [Nat.zero_add]
  exact ⟨h.at a1.1, h.at a1.2.1, h.at a1.2.2, h.at a2.1, h.at a2.2.1, h.at a2.2.2⟩
theorem look_acts (sg : List Sym) (A B : Tn) : (lookP sg A B).act = 1 ∨ (lookP sg A B).act = 2 ∨ (lookP sg A B).act = 3 ∨ (lookP sg A B).act = 4 ∨ (lookP sg A B).act = 5 := by
  unfold lookP
  split
  · split
    · unfold ofVarsP
      split
      · exact .inl rfl
      · split <;> exact .inr (.inr (.inl rfl))
    · unfold ofVarP
      split
      · exact .inr (.inl rfl)
      · exact .inr (.inr (.inl rfl))
  · split
    · unfold ofVarP
      split
      · exact .inr (.inl rfl)
      · exact .inr (.inr (.inl rfl))
    · split
      · split
        · unfold sideP
          split
          · exact .inr (.inr (.inr (.inl rfl)))
          · exact .inr (.inl rfl)
        · exact .inr (.inr (.inr (.inr rfl)))
      · exact .inr (.inl rfl)
theorem names_put {bs bs' : List Bk} {nm : ByteArray} {T : Tn} (h : bs'.map btn = bs.map (fun b => (b.1, w1T nm T b.2.tn)) ++ [(nm, T)]) (hb : ∀ b ∈ bs, b.1.size ≤ maxLen) (hn : nm.size ≤ maxLen) : ∀ b ∈ bs', b.1.size ≤ maxLen := fun b hb' => by
  have h1 : btn b ∈ bs'.map btn := List.mem_map_of_mem hb'
  rw [h, List.mem_append] at h1
  rcases h1 with h1 | h1
  · obtain ⟨b', hb2, e⟩ := List.mem_map.1 h1
    have e2 : b'.1 = b.1 := congrArg (fun z : ByteArray × Tn => z.1) e
    rw [← e2]
    exact hb b' hb2
  · have e := List.mem_singleton.1 h1
    have e2 : b.1 = nm := congrArg (fun z : ByteArray × Tn => z.1) e
    rw [e2]
    exact hn
set_option maxRecDepth 100000 in
set_option maxHeartbeats 8000000 in
theorem free_any (hTo : ToldOk) (S : Option Addr) (n cap : Nat) (sg : List Sym) (P : List Eq2) (q : Option Addr) (d : Nat) (w : World) (hG : SigAt w S n sg) (hP : ∀ p ∈ P, TmAt w p.1.x p.1.a p.1.c p.1.l ∧ TmAt w p.2.x p.2.a p.2.c p.2.l) (hq : EqsAt w q P) (hok : ∀ p ∈ P, okT p.1.tn ∧ okT p.2.tn) (hs : sizeP P ≤ 1048576) :
    Calls Try.prog 15 #[.slice S n cap, .slice q P.length d] w (FreeEnd sg P w) := by
  have HG := hid hG; have HP := hid hP; have HQ := hid hq; have HTO := hid hTo
  have hl3 := sizeP_len P
  obtain ⟨f0, R, hfR, hF0⟩ := free_first (sg := sg) hok hs
  have HFR := hid hfR; have HF0 := hid hF0; have HOK := hid hok
  obtain ⟨nP, hnP⟩ : ∃ nP, P.length = nP := ⟨_, rfl⟩
  have HNP := hid hnP
  rw [hnP] at hl3 ⊢
  clear hG hP hq hTo hfR hF0 hok hnP
  go_enter Try.func15, Try.ntmps15
  go_wp2_with fail
  go_loopw [15] (fun iv wr => ∃ (j : Nat), j ≤ nP ∧ iv = .int .i64 j ∧ Below w.heap.size w wr ∧ (P.take j).all (af2 sg) = true) (fun iv _ => nP - (intOf iv).toNat)
  case atStart => exact ⟨0, Nat.zero_le _, rfl, Below.refl _ _, rfl⟩
  case round =>
    obtain ⟨j, hj, rfl, hb, hall⟩ := hrel
    have HB := hid hb; have HALL := hid hall
    by_cases hlt : j < nP
    · have hjP : j < P.length := by have := HNP.out; omega
      obtain ⟨g, o, rfl, q0, q1, q2, q3, q4, q5⟩ := (HQ.out.keep (fun g o _ hgl => hb.block g hgl)) j hjP
      obtain ⟨tm1, tm2⟩ := HP.out _ (List.getElem_mem hjP)
      have hst := all_no (f := af2 sg) hjP
      have hnx := all_next (f := af2 sg) hjP hall
      generalize P[j] = p at q0 q1 q2 q3 q4 q5 tm1 tm2 hst hnx
      have hal := alloc_below0 wr (.cells #[.string p.1.x.1, .int .i64 p.1.x.2, .slice p.1.a (lenF p.1.l) p.1.c, .string p.2.x.1, .int .i64 p.2.x.2, .slice p.2.a (lenF p.2.l) p.2.c] 28)
      have hlow := hb.trans (hal.mono hb.size)
      have hbx := Box.new wr 28 #[.string p.1.x.1, .int .i64 p.1.x.2, .slice p.1.a (lenF p.1.l) p.1.c, .string p.2.x.1, .int .i64 p.2.x.2, .slice p.2.a (lenF p.2.l) p.2.c]
      have HBX := hid hbx; have HLOW := hid hlow
      have H1 := hid fun (W : World) (hW : Below w.heap.size w W) => allFree_any sg S n cap p.1.x p.1.l p.1.a p.1.c W (HG.out.below hW) (tm1.below hW)
      have H2 := hid fun (W : World) (hW : Below w.heap.size w W) => allFree_any sg S n cap p.2.x p.2.l p.2.a p.2.c W (HG.out.below hW) (tm2.below hW)
      have z0 := hbx.c 0; have z1 := hbx.c 1; have z2 := hbx.c 2; have z3 := hbx.c 3; have z4 := hbx.c 4; have z5 := hbx.c 5
      cases h1 : afT sg p.1.x p.1.l
      · have HA := hid (hst (by unfold af2; rw [h1]; rfl))
        simp only [h1] at H1
        clear hb hall hal hlow hbx tm1 tm2 hst hnx h1
        go_wp2_with (go_at_call 30; refine (H1.out _ HLOW.out).mono ?_; rintro e w3 ⟨rfl, hb3⟩; have HB3 := hid (HLOW.out.trans (hb3.mono HLOW.out.size)); clear hb3)
        refine bodyPost_ret (results_tmp3 rfl _ _ _) rfl ?_
        exact ⟨HB3.out, .inl ⟨HA.out, rfl⟩⟩
      · cases h2 : afT sg p.2.x p.2.l
        · have HA := hid (hst (by unfold af2; rw [h1, h2]; rfl))
          simp only [h1] at H1
          simp only [h2] at H2
          clear hb hall hal hlow hbx tm1 tm2 hst hnx h1 h2
          go_wp2_with (first
            | (go_at_call 30; (with_reducible refine (H2.out _ HB3.out).mono ?_); rintro e w4 ⟨rfl, hb4⟩; have HB4 := hid (HB3.out.trans (hb4.mono HB3.out.size)); clear hb4)
            | (go_at_call 30; (with_reducible refine (H1.out _ HLOW.out).mono ?_); rintro e w3 ⟨rfl, hb3⟩; have HB3 := hid (HLOW.out.trans (hb3.mono HLOW.out.size)); have X3 := HBX.out.below hb3; have y3 := X3.c 3; have y4 := X3.c 4; have y5 := X3.c 5; clear hb3 X3))
          refine bodyPost_ret (results_tmp3 rfl _ _ _) rfl ?_
          exact ⟨HB4.out, .inl ⟨HA.out, rfl⟩⟩
        · have HA := hid (hnx (by unfold af2; rw [h1, h2]; rfl))
          simp only [h1] at H1
          simp only [h2] at H2
          clear hb hall hal hlow hbx tm1 tm2 hst hnx h1 h2
          go_wp2_with (first
            | (go_at_call 30; (with_reducible refine (H2.out _ HB3.out).mono ?_); rintro e w4 ⟨rfl, hb4⟩; have HB4 := hid (HB3.out.trans (hb4.mono HB3.out.size)); clear hb4)
            | (go_at_call 30; (with_reducible refine (H1.out _ HLOW.out).mono ?_); rintro e w3 ⟨rfl, hb3⟩; have HB3 := hid (HLOW.out.trans (hb3.mono HLOW.out.size)); have X3 := HBX.out.below hb3; have y3 := X3.c 3; have y4 := X3.c 4; have y5 := X3.c 5; clear hb3 X3))
          go_roundw
          case rel => exact ⟨j + 1, by omega, by go_num, HB4.out, HA.out⟩
          case measure => simp [intOf]; omega
    · have e1 : j = nP := by omega
      subst e1
      have hnn := HNP.out
      rw [← hnn, List.take_length] at hall
      have HA := hid hall
      have hal := alloc_below0 wr (.cells #[.slice none 0 0, .slice none 0 0] 63)
      have hsv : Sv w wr.heap.size (.slice none 0 0) (.slice none 0 0) 0 [] [] (wr.alloc (.cells #[.slice none 0 0, .slice none 0 0] 63)) := ⟨hb.trans (hal.mono hb.size), hb.size, Box.new wr 63 _, rfl, World.ownsRow_nil _ _ _ _, World.ownsRow_nil _ _ _ _, fun k hk => (by cases hk), fun b hb => (by cases hb)⟩
      have HL := hid (lay_any w wr.heap.size (.slice none 0 0) (.slice none 0 0) 0 [] [] (wr.alloc (.cells #[.slice none 0 0, .slice none 0 0] 63)) P q d hsv (fun p hp => by
        obtain ⟨t1, t2⟩ := HP.out p hp
        exact ⟨tmO_below (tmO_new t1 (fun b o hb => by unfold S0; rw [decide_eq_true hb]; rfl)) hsv.low, tmO_below (tmO_new t2 (fun b o hb => by unfold S0; rw [decide_eq_true hb]; rfl)) hsv.low⟩)
        (HQ.out.keep (fun g o _ hgl => hsv.low.block g hgl)) (fun h0 g o e => ⟨fun e2 => by
          obtain ⟨g', o', e3, c0, _⟩ := HQ.out 0 h0
          rw [e] at e3
          have e4 : g = g' := congrArg Addr.block (Option.some.inj e3)
          have h5 := World.block_lt_of_cell? w _ c0
          have h6 := hb.size
          have h7 : g' < w.heap.size := h5
          omega, fun e2 => by cases e2⟩) (by omega))
      rw [hnn] at HL
      have HSV := hid hsv
      clear hb hall hal hsv hnn
      go_wp2_with (go_at_call 31; refine HL.out.mono ?_; rintro e w3 ⟨⟨v3, rfl⟩, hf3, v1', hs3⟩; have HS3 := hid hs3; clear hf3 hs3)
      have hbB : w.heap.size ≤ wr.heap.size := HSV.out.hB
      have hI0 : FSt sg R w wr.heap.size f0 w3 := ⟨P, [], v1', _, HF0.out, by have := HS3.out; rw [Nat.zero_add, List.nil_append] at this; rw [HNP.out]; exact this, fun b hb => by cases hb⟩
      have HI0 := hid hI0
      obtain ⟨mu, hmu⟩ := count_of (fun f W => FSt sg R w wr.heap.size f W)
      have HMU := hid hmu
      generalize wr.heap.size = B at HI0 HMU HSV hbB ⊢
      clear hI0 hmu HS3 HSV HL
      go_loopw [] (fun W => ∃ f, FSt sg R w B f W) (fun W => mu W)
      case atStart => exact ⟨f0, HI0.out⟩
      case round =>
        obtain ⟨fw, hfw⟩ := hrel
        obtain ⟨⟨st, bs, v1, v2, hF, hS, hN⟩⟩ := (HMU.out wr fw hfw).1
        have HN := hid hN
        cases st with
        | nil =>
          obtain ⟨p1, cap1, rfl, _, _, _⟩ := own_any hS.r1
          have H29 := hid (take_none B cap1 p1 v2 wr hS.box)
          have HD := hid hF.done
          have HDL := hid hF.len.2
          have H30 := hid fun (W : World) (hW : Below wr.heap.size wr W) => HTO.out w B _ v2 _ _ bs W (hS.below hW) (by have := hF.len.2; rw [List.length_map] at this; exact this) hN
          clear hF hS hN hfw
          go_wp2_with (first
            | (go_at_call 32; refine H29.out.mono ?_; rintro e w4 ⟨rfl, hb4⟩; have HB4 := hid (hb4.trans ((alloc_below0 w4 (.cells #[.string ⟨#[]⟩, .int .i64 0, .slice none 0 0, .string ⟨#[]⟩, .int .i64 0, .slice none 0 0] 28)).mono hb4.size)); clear hb4)
            | (go_at_call 33; refine (H30.out _ HB4.out).mono ?_; rintro e w5 ⟨pp, cc, ms, rfl, hbi, hpm, hso, hb5⟩; have HX := hid (show Below w.heap.size w w5 ∧ BindsAt w5 pp ms.length ms ∧ List.Perm ms (bs.map btn) ∧ ms.Pairwise (fun x y => 0 ≤ Lib.compareBytes y.1.data.toList x.1.data.toList) from ⟨hb5, hbi, hpm, hso⟩); clear hbi hpm hso hb5))
          refine bodyPost_ret (results_tmp3 rfl _ _ _) rfl ?_
          exact ⟨HX.out.1, .inr ⟨HA.out, f0, R, HFR.out, .inr (.inr ⟨bs.map btn, pp, cc, ms, HD.out, rfl, HX.out.2.1, HX.out.2.2.1, HX.out.2.2.2, HDL.out⟩)⟩⟩
        | cons p r =>
          have hS' : Sv w B v1 v2 (r.length + 1) (flatK r.reverse ++ [p.1, p.2]) bs wr := by
            have := hS
            rw [List.length_cons, List.reverse_cons, flatK_app] at this
            exact this
          have hlen := hF.len
          rw [List.length_map, List.length_map, List.length_cons] at hlen
          have hsd := hF.sides
          have H29 := hid (takeS_any w B v1 v2 r.length (flatK r.reverse) p.1 p.2 bs wr hS' (by omega))
          have HS := hid hS'
          have HTA := hid (hS'.te p.1 (List.mem_append_right _ (by simp)))
          have HTB := hid (hS'.te p.2 (List.mem_append_right _ (by simp)))
          have hn1 : nodesF p.1.l ≤ 1048576 := hsd.2.1
          have hn2 : nodesF p.2.l ≤ 1048576 := hsd.2.2.1
          have HLOOK := hid fun (W : World) {v1' : Value} (hs : Sv w B v1' v2 r.length (flatK r.reverse) bs W) (ht1 : TmO (S0 w.heap.size) W p.1.x p.1.a p.1.c p.1.l) (ht2 : TmO (S0 w.heap.size) W p.2.x p.2.a p.2.c p.2.l) => lookS_any S n cap sg p.1.tn p.2.tn p.1.a p.2.a p.1.c p.2.c (offW (S0 w.heap.size) W) W (HG.out.below hs.low) ht1 ht2 (sub_off _ _) hn1 hn2
          have hMe : ∀ k ∈ flatK r.reverse, nodesF k.l ≤ 1048576 := fun k hk => by
            obtain ⟨q', hq', hk'⟩ := List.mem_flatMap.1 hk
            have h5 := hsd.2.2.2 (tn2 q') (List.mem_map_of_mem (List.mem_reverse.1 hq'))
            simp only [List.mem_cons, List.not_mem_nil, or_false] at hk'
            rcases hk' with rfl | rfl
            · exact h5.1
            · exact h5.2
          have hMb : ∀ b ∈ bs, nodesF b.2.l ≤ 1048576 := fun b hb => hF.bsz (btn b) (List.mem_map_of_mem hb)
          have HME := hid hMe; have HMB := hid hMb
          have hacts := look_acts sg p.1.tn p.2.tn
          have hbv : (lookP sg p.1.tn p.2.tn).act = 3 → (lookP sg p.1.tn p.2.tn).bv.size ≤ maxLen ∧ nodesF (lookP sg p.1.tn p.2.tn).t.2 ≤ 1048576 := fun h3 => by
            obtain ⟨_, _, _, h4⟩ := look_set hsd.1.1 hsd.1.2 h3
            rcases h4 with ⟨e1, e2, _⟩ | ⟨e1, e2, _⟩
            · have e1' : (lookP sg p.1.tn p.2.tn).bv = p.1.tn.1.1 := e1
              have e2' : (lookP sg p.1.tn p.2.tn).t = p.2.tn := e2
              rw [e1', e2']
              exact ⟨HTA.out.sizes.name, hn2⟩
            · have e1' : (lookP sg p.1.tn p.2.tn).bv = p.2.tn.1.1 := e1
              have e2' : (lookP sg p.1.tn p.2.tn).t = p.1.tn := e2
              rw [e1', e2']
              exact ⟨HTB.out.sizes.name, hn1⟩
          have hfail : (lookP sg p.1.tn p.2.tn).act = 2 → R = (1, []) := hF.fail
          have hgrown : (lookP sg p.1.tn p.2.tn).act = 3 → roomS (lookP sg p.1.tn p.2.tn).bv (lookP sg p.1.tn p.2.tn).t (r.map tn2) (bs.map btn) = false → R = (2, []) := hF.grown
          have hset : (lookP sg p.1.tn p.2.tn).act = 3 → roomS (lookP sg p.1.tn p.2.tn).bv (lookP sg p.1.tn p.2.tn).t (r.map tn2) (bs.map btn) = true → ∃ g, g < mu wr ∧ FInv sg R g (putS (lookP sg p.1.tn p.2.tn).bv (lookP sg p.1.tn p.2.tn).t (r.map tn2)) (putB (lookP sg p.1.tn p.2.tn).bv (lookP sg p.1.tn p.2.tn).t (bs.map btn) ++ [((lookP sg p.1.tn p.2.tn).bv, (lookP sg p.1.tn p.2.tn).t)]) := hF.set
          have hparts : (lookP sg p.1.tn p.2.tn).act = 4 → ∃ g, g < mu wr ∧ FInv sg R g ((lookP sg p.1.tn p.2.tn).ls ++ r.map tn2) (bs.map btn) := hF.parts
          have hnext : (lookP sg p.1.tn p.2.tn).act ≠ 2 → (lookP sg p.1.tn p.2.tn).act ≠ 3 → (lookP sg p.1.tn p.2.tn).act ≠ 4 → ∃ g, g < mu wr ∧ FInv sg R g (r.map tn2) (bs.map btn) := hF.next
          generalize lookP sg p.1.tn p.2.tn = V at HLOOK hacts hbv hfail hgrown hset hparts hnext
          obtain ⟨act, bv, tt, ls, sym⟩ := V
          have HBV := hid hbv; have HFAIL := hid hfail; have HGROWN := hid hgrown; have HSET := hid hset; have HPARTS := hid hparts; have HNEXT := hid hnext
          clear hF hS hS' hN hfw hsd hMe hMb hbv hfail hgrown hset hparts hnext
          dsimp only at *
          rcases hacts with rfl | rfl | rfl | rfl | rfl
          · go_wp2_with (first
              | (go_at_call 32; refine H29.out.mono ?_; rintro e w4 ⟨rfl, ⟨v1', hs4⟩, hf4⟩; have hal := alloc_below0 w4 (.cells #[.string p.1.x.1, .int .i64 p.1.x.2, .slice p.1.a (lenF p.1.l) p.1.c, .string p.2.x.1, .int .i64 p.2.x.2, .slice p.2.a (lenF p.2.l) p.2.c] 28); have HS4 := hid (hs4.below hal); have HT1 := tmO_below (tmO_fr HTA.out hf4 (fun b o hb ho => (HS.out.hid1 (.inr hb) ho).2)) hal; have HT2 := tmO_below (tmO_fr HTB.out hf4 (fun b o hb ho => (HS.out.hid1 (.inr hb) ho).2)) hal; have HLK := hid (HLOOK.out _ HS4.out HT1 HT2); have X4 := Box.new w4 28 #[.string p.1.x.1, .int .i64 p.1.x.2, .slice p.1.a (lenF p.1.l) p.1.c, .string p.2.x.1, .int .i64 p.2.x.2, .slice p.2.a (lenF p.2.l) p.2.c]; have z0 := X4.c 0; have z1 := X4.c 1; have z2 := X4.c 2; have z3 := X4.c 3; have z4 := X4.c 4; have z5 := X4.c 5; clear hs4 hf4 hal HT1 HT2 X4)
              | (go_at_call 21; refine HLK.out.mono ?_; rintro e w5 ⟨⟨v5, rfl, hlk⟩, hb5⟩; obtain ⟨tk, ks, la, lc, rfl, htk, htt, hks, hkt, hrow⟩ := hlk.is; unfold wayC; have hal5 := alloc_below0 w5 (.cells #[.int .i64 1, .string bv, .string tk.x.1, .int .i64 tk.x.2, .slice tk.a (lenF tk.l) tk.c, .slice la ls.length lc, .int .i64 sym] 36); have hb6 := hb5.trans (hal5.mono hb5.size); have HS6 := hid (HS4.out.below hb6); have HB6 := hid hb6; have HAL5 := hid hal5; have HTK := hid htk; have HTT := hid htt; have HKS := hid hks; have HKT := hid hkt; have HROW := hid hrow; have X6 := Box.new w5 36 #[.int .i64 1, .string bv, .string tk.x.1, .int .i64 tk.x.2, .slice tk.a (lenF tk.l) tk.c, .slice la ls.length lc, .int .i64 sym]; have v0 := X6.c 0; have v1c := X6.c 1; have v2c := X6.c 2; have v3c := X6.c 3; have v4c := X6.c 4; have v5c := X6.c 5; have v6c := X6.c 6; clear hlk hb5 hal5 hb6 htk htt hks hkt hrow X6 z0 z1 z2 z3 z4 z5))
            obtain ⟨g, hg, hfi⟩ := HNEXT.out (by decide) (by decide) (by decide)
            have HFS : Hid (FSt sg R w B g (w5.alloc (.cells #[.int .i64 1, .string bv, .string tk.x.1, .int .i64 tk.x.2, .slice tk.a (lenF tk.l) tk.c, .slice la ls.length lc, .int .i64 sym] 36))) := hid ⟨r, bs, _, _, hfi, HS6.out, HN.out⟩
            have HLT := hid hg
            clear hfi hg
            go_roundw
            case rel => exact ⟨g, HFS.out⟩
            case measure => exact Nat.lt_of_le_of_lt (HMU.out _ g HFS.out).2 HLT.out
          · go_wp2_with (first
              | (go_at_call 32; refine H29.out.mono ?_; rintro e w4 ⟨rfl, ⟨v1', hs4⟩, hf4⟩; have hal := alloc_below0 w4 (.cells #[.string p.1.x.1, .int .i64 p.1.x.2, .slice p.1.a (lenF p.1.l) p.1.c, .string p.2.x.1, .int .i64 p.2.x.2, .slice p.2.a (lenF p.2.l) p.2.c] 28); have HS4 := hid (hs4.below hal); have HT1 := tmO_below (tmO_fr HTA.out hf4 (fun b o hb ho => (HS.out.hid1 (.inr hb) ho).2)) hal; have HT2 := tmO_below (tmO_fr HTB.out hf4 (fun b o hb ho => (HS.out.hid1 (.inr hb) ho).2)) hal; have HLK := hid (HLOOK.out _ HS4.out HT1 HT2); have X4 := Box.new w4 28 #[.string p.1.x.1, .int .i64 p.1.x.2, .slice p.1.a (lenF p.1.l) p.1.c, .string p.2.x.1, .int .i64 p.2.x.2, .slice p.2.a (lenF p.2.l) p.2.c]; have z0 := X4.c 0; have z1 := X4.c 1; have z2 := X4.c 2; have z3 := X4.c 3; have z4 := X4.c 4; have z5 := X4.c 5; clear hs4 hf4 hal HT1 HT2 X4)
              | (go_at_call 21; refine HLK.out.mono ?_; rintro e w5 ⟨⟨v5, rfl, hlk⟩, hb5⟩; obtain ⟨tk, ks, la, lc, rfl, htk, htt, hks, hkt, hrow⟩ := hlk.is; unfold wayC; have hal5 := alloc_below0 w5 (.cells #[.int .i64 2, .string bv, .string tk.x.1, .int .i64 tk.x.2, .slice tk.a (lenF tk.l) tk.c, .slice la ls.length lc, .int .i64 sym] 36); have hb6 := hb5.trans (hal5.mono hb5.size); have HS6 := hid (HS4.out.below hb6); have HB6 := hid hb6; have HAL5 := hid hal5; have HTK := hid htk; have HTT := hid htt; have HKS := hid hks; have HKT := hid hkt; have HROW := hid hrow; have X6 := Box.new w5 36 #[.int .i64 2, .string bv, .string tk.x.1, .int .i64 tk.x.2, .slice tk.a (lenF tk.l) tk.c, .slice la ls.length lc, .int .i64 sym]; have v0 := X6.c 0; have v1c := X6.c 1; have v2c := X6.c 2; have v3c := X6.c 3; have v4c := X6.c 4; have v5c := X6.c 5; have v6c := X6.c 6; clear hlk hb5 hal5 hb6 htk htt hks hkt hrow X6 z0 z1 z2 z3 z4 z5))
            refine bodyPost_ret (results_tmp3 rfl _ _ _) rfl ?_
            exact ⟨HS6.out.low, .inr ⟨HA.out, f0, R, HFR.out, .inl ⟨HFAIL.out trivial, rfl⟩⟩⟩
          · go_upto_region 17 with (first
              | (go_at_call 32; refine H29.out.mono ?_; rintro e w4 ⟨rfl, ⟨v1', hs4⟩, hf4⟩; have hal := alloc_below0 w4 (.cells #[.string p.1.x.1, .int .i64 p.1.x.2, .slice p.1.a (lenF p.1.l) p.1.c, .string p.2.x.1, .int .i64 p.2.x.2, .slice p.2.a (lenF p.2.l) p.2.c] 28); have HS4 := hid (hs4.below hal); have HT1 := tmO_below (tmO_fr HTA.out hf4 (fun b o hb ho => (HS.out.hid1 (.inr hb) ho).2)) hal; have HT2 := tmO_below (tmO_fr HTB.out hf4 (fun b o hb ho => (HS.out.hid1 (.inr hb) ho).2)) hal; have HLK := hid (HLOOK.out _ HS4.out HT1 HT2); have X4 := Box.new w4 28 #[.string p.1.x.1, .int .i64 p.1.x.2, .slice p.1.a (lenF p.1.l) p.1.c, .string p.2.x.1, .int .i64 p.2.x.2, .slice p.2.a (lenF p.2.l) p.2.c]; have z0 := X4.c 0; have z1 := X4.c 1; have z2 := X4.c 2; have z3 := X4.c 3; have z4 := X4.c 4; have z5 := X4.c 5; clear hs4 hf4 hal HT1 HT2 X4)
              | (go_at_call 21; refine HLK.out.mono ?_; rintro e w5 ⟨⟨v5, rfl, hlk⟩, hb5⟩; obtain ⟨tk, ks, la, lc, rfl, htk, htt, hks, hkt, hrow⟩ := hlk.is; unfold wayC; have hal5 := alloc_below0 w5 (.cells #[.int .i64 3, .string bv, .string tk.x.1, .int .i64 tk.x.2, .slice tk.a (lenF tk.l) tk.c, .slice la ls.length lc, .int .i64 sym] 36); have hb6 := hb5.trans (hal5.mono hb5.size); have HS6 := hid (HS4.out.below hb6); have HB6 := hid hb6; have HAL5 := hid hal5; have HTK := hid htk; have HTT := hid htt; have HKS := hid hks; have HKT := hid hkt; have HROW := hid hrow; have X6 := Box.new w5 36 #[.int .i64 3, .string bv, .string tk.x.1, .int .i64 tk.x.2, .slice tk.a (lenF tk.l) tk.c, .slice la ls.length lc, .int .i64 sym]; have v0 := X6.c 0; have v1c := X6.c 1; have v2c := X6.c 2; have v3c := X6.c 3; have v4c := X6.c 4; have v5c := X6.c 5; have v6c := X6.c 6; clear hlk hb5 hal5 hb6 htk htt hks hkt hrow X6 z0 z1 z2 z3 z4 z5))
            have htn : (tk.x, tk.l) = tt := HTK.out
            subst htn
            obtain ⟨hz1, hz2⟩ := HBV.out trivial
            have HST := hid (set_any w B _ v2 r.length (flatK r.reverse) bs (w5.alloc (.cells #[.int .i64 3, .string bv, .string tk.x.1, .int .i64 tk.x.2, .slice tk.a (lenF tk.l) tk.c, .slice la ls.length lc, .int .i64 sym] 36)) bv (tk.x, tk.l) tk.a tk.c HS6.out (tmO_below (show TmO (S0 w.heap.size) _ tk.x tk.a tk.c tk.l from HTT.out) HB6.out) hz2 (by omega) (by omega) HME.out HMB.out)
            rw [room_eqs] at HST
            cases hrm : roomS bv (tk.x, tk.l) (r.map tn2) (bs.map btn)
            · have HGR := hid (HGROWN.out trivial hrm)
              simp only [hrm] at HST
              clear hrm
              try dsimp only at HST
              go_wp2_with (go_at_call 34; refine HST.out.mono ?_; rintro e w7 ⟨rfl, hb7, _⟩; have HB7 := hid hb7; clear hb7)
              refine bodyPost_ret (results_tmp3 rfl _ _ _) rfl ?_
              exact ⟨HB7.out, .inr ⟨HA.out, f0, R, HFR.out, .inr (.inl ⟨HGR.out, rfl⟩)⟩⟩
            · have HSE := hid (HSET.out trivial hrm)
              simp only [hrm] at HST
              clear hrm
              try dsimp only at HST
              go_wp2_with (go_at_call 34; refine HST.out.mono ?_; rintro e w7 ⟨rfl, hb7, hr7⟩; have HR7 := hid (hr7 trivial); clear hb7 hr7)
              obtain ⟨v2', es', bs', hm1, hm2, hs7⟩ := HR7.out
              obtain ⟨st', e1, e2, e3⟩ := put_eqs hm1
              obtain ⟨g, hg, hfi⟩ := HSE.out
              have HFS : Hid (FSt sg R w B g w7) := hid ⟨st', bs', _, v2', by rw [e2, put_binds hm2]; exact hfi, by rw [← e1, e3]; exact hs7, names_put hm2 HN.out hz1⟩
              have HLT := hid hg
              clear hfi hg hs7 hm1 hm2 e1 e2 e3
              go_roundw
              case rel => exact ⟨g, HFS.out⟩
              case measure => exact Nat.lt_of_le_of_lt (HMU.out _ g HFS.out).2 HLT.out
          · go_upto_region 20 with (first
              | (go_at_call 32; refine H29.out.mono ?_; rintro e w4 ⟨rfl, ⟨v1', hs4⟩, hf4⟩; have hal := alloc_below0 w4 (.cells #[.string p.1.x.1, .int .i64 p.1.x.2, .slice p.1.a (lenF p.1.l) p.1.c, .string p.2.x.1, .int .i64 p.2.x.2, .slice p.2.a (lenF p.2.l) p.2.c] 28); have HS4 := hid (hs4.below hal); have HT1 := tmO_below (tmO_fr HTA.out hf4 (fun b o hb ho => (HS.out.hid1 (.inr hb) ho).2)) hal; have HT2 := tmO_below (tmO_fr HTB.out hf4 (fun b o hb ho => (HS.out.hid1 (.inr hb) ho).2)) hal; have HLK := hid (HLOOK.out _ HS4.out HT1 HT2); have X4 := Box.new w4 28 #[.string p.1.x.1, .int .i64 p.1.x.2, .slice p.1.a (lenF p.1.l) p.1.c, .string p.2.x.1, .int .i64 p.2.x.2, .slice p.2.a (lenF p.2.l) p.2.c]; have z0 := X4.c 0; have z1 := X4.c 1; have z2 := X4.c 2; have z3 := X4.c 3; have z4 := X4.c 4; have z5 := X4.c 5; clear hs4 hf4 hal HT1 HT2 X4)
              | (go_at_call 21; refine HLK.out.mono ?_; rintro e w5 ⟨⟨v5, rfl, hlk⟩, hb5⟩; obtain ⟨tk, ks, la, lc, rfl, htk, htt, hks, hkt, hrow⟩ := hlk.is; unfold wayC; have hal5 := alloc_below0 w5 (.cells #[.int .i64 4, .string bv, .string tk.x.1, .int .i64 tk.x.2, .slice tk.a (lenF tk.l) tk.c, .slice la ls.length lc, .int .i64 sym] 36); have hb6 := hb5.trans (hal5.mono hb5.size); have HS6 := hid (HS4.out.below hb6); have HB6 := hid hb6; have HAL5 := hid hal5; have HTK := hid htk; have HTT := hid htt; have HKS := hid hks; have HKT := hid hkt; have HROW := hid hrow; have X6 := Box.new w5 36 #[.int .i64 4, .string bv, .string tk.x.1, .int .i64 tk.x.2, .slice tk.a (lenF tk.l) tk.c, .slice la ls.length lc, .int .i64 sym]; have v0 := X6.c 0; have v1c := X6.c 1; have v2c := X6.c 2; have v3c := X6.c 3; have v4c := X6.c 4; have v5c := X6.c 5; have v6c := X6.c 6; clear hlk hb5 hal5 hb6 htk htt hks hkt hrow X6 z0 z1 z2 z3 z4 z5))
            have hkl : ks.length = 2 * ls.length := by
              have := congrArg List.length HKS.out
              rwa [List.length_map, flat_len] at this
            obtain ⟨Q, hQ1, hQ2⟩ := unflat ls.length ks hkl
            have hQt : Q.map tn2 = ls := flatL_inj (by rw [← flatK_tn, ← hQ1]; exact HKS.out)
            obtain ⟨g, hg, hfi⟩ := HPARTS.out trivial
            have hln2 := hfi.len.1
            rw [List.length_append, List.length_map, ← hQ2] at hln2
            have heq : EqsAt (w5.alloc (.cells #[.int .i64 4, .string bv, .string tk.x.1, .int .i64 tk.x.2, .slice tk.a (lenF tk.l) tk.c, .slice la ls.length lc, .int .i64 sym] 36)) la Q := by
              rcases HROW.out with ⟨h1, h2, h3⟩ | ⟨g4, h1, h2, h3, h4⟩
              · intro i hi
                have h5 : ls.length = 0 := by rw [show ls = [] from h1]; rfl
                omega
              · subst h1
                exact eqs_row (h4.below HAL5.out) hQ1
            have HLY := hid (lay_any w B _ v2 r.length (flatK r.reverse) bs (w5.alloc (.cells #[.int .i64 4, .string bv, .string tk.x.1, .int .i64 tk.x.2, .slice tk.a (lenF tk.l) tk.c, .slice la ls.length lc, .int .i64 sym] 36)) Q la lc HS6.out (fun q' hq' => by
                have hm1 : q'.1 ∈ ks := by rw [hQ1]; exact List.mem_flatMap.2 ⟨q', hq', by simp⟩
                have hm2 : q'.2 ∈ ks := by rw [hQ1]; exact List.mem_flatMap.2 ⟨q', hq', by simp⟩
                exact ⟨tmO_below (show TmO (S0 w.heap.size) _ _ _ _ _ from HKT.out _ hm1) HB6.out, tmO_below (show TmO (S0 w.heap.size) _ _ _ _ _ from HKT.out _ hm2) HB6.out⟩) heq (fun h0 g4 o4 e4 => by
                rcases HROW.out with ⟨_, h2, _⟩ | ⟨g5, h1, h2, _⟩
                · rw [h2] at e4; cases e4
                · rw [h1] at e4
                  have e5 : g5 = g4 := congrArg Addr.block (Option.some.inj e4)
                  have h6 := HS4.out.box.lt
                  refine ⟨by omega, fun e6 => ?_⟩
                  have := (HS4.out.r1.lt g4 e6).2
                  omega) (by omega))
            rw [hQ2] at HLY
            have HQT := hid hQt; have HQ2 := hid hQ2; have HFI := hid hfi; have HLT := hid hg
            clear heq hQt hQ2 hfi hg hkl hln2
            go_wp2_with (go_at_call 31; refine HLY.out.mono ?_; rintro e w7 ⟨⟨v7, rfl⟩, _, v1'', hs7⟩; have HS7 := hid hs7; clear hs7)
            have HFS : Hid (FSt sg R w B g w7) := hid ⟨Q ++ r, bs, v1'', v2, by rw [List.map_append, HQT.out]; exact HFI.out, by
              rw [List.length_append, HQ2.out, List.reverse_append, flatK_app, Nat.add_comm]
              exact HS7.out, HN.out⟩
            go_roundw
            case rel => exact ⟨g, HFS.out⟩
            case measure => exact Nat.lt_of_le_of_lt (HMU.out _ g HFS.out).2 HLT.out
          · go_wp2_with (first
              | (go_at_call 32; refine H29.out.mono ?_; rintro e w4 ⟨rfl, ⟨v1', hs4⟩, hf4⟩; have hal := alloc_below0 w4 (.cells #[.string p.1.x.1, .int .i64 p.1.x.2, .slice p.1.a (lenF p.1.l) p.1.c, .string p.2.x.1, .int .i64 p.2.x.2, .slice p.2.a (lenF p.2.l) p.2.c] 28); have HS4 := hid (hs4.below hal); have HT1 := tmO_below (tmO_fr HTA.out hf4 (fun b o hb ho => (HS.out.hid1 (.inr hb) ho).2)) hal; have HT2 := tmO_below (tmO_fr HTB.out hf4 (fun b o hb ho => (HS.out.hid1 (.inr hb) ho).2)) hal; have HLK := hid (HLOOK.out _ HS4.out HT1 HT2); have X4 := Box.new w4 28 #[.string p.1.x.1, .int .i64 p.1.x.2, .slice p.1.a (lenF p.1.l) p.1.c, .string p.2.x.1, .int .i64 p.2.x.2, .slice p.2.a (lenF p.2.l) p.2.c]; have z0 := X4.c 0; have z1 := X4.c 1; have z2 := X4.c 2; have z3 := X4.c 3; have z4 := X4.c 4; have z5 := X4.c 5; clear hs4 hf4 hal HT1 HT2 X4)
              | (go_at_call 21; refine HLK.out.mono ?_; rintro e w5 ⟨⟨v5, rfl, hlk⟩, hb5⟩; obtain ⟨tk, ks, la, lc, rfl, htk, htt, hks, hkt, hrow⟩ := hlk.is; unfold wayC; have hal5 := alloc_below0 w5 (.cells #[.int .i64 5, .string bv, .string tk.x.1, .int .i64 tk.x.2, .slice tk.a (lenF tk.l) tk.c, .slice la ls.length lc, .int .i64 sym] 36); have hb6 := hb5.trans (hal5.mono hb5.size); have HS6 := hid (HS4.out.below hb6); have HB6 := hid hb6; have HAL5 := hid hal5; have HTK := hid htk; have HTT := hid htt; have HKS := hid hks; have HKT := hid hkt; have HROW := hid hrow; have X6 := Box.new w5 36 #[.int .i64 5, .string bv, .string tk.x.1, .int .i64 tk.x.2, .slice tk.a (lenF tk.l) tk.c, .slice la ls.length lc, .int .i64 sym]; have v0 := X6.c 0; have v1c := X6.c 1; have v2c := X6.c 2; have v3c := X6.c 3; have v4c := X6.c 4; have v5c := X6.c 5; have v6c := X6.c 6; clear hlk hb5 hal5 hb6 htk htt hks hkt hrow X6 z0 z1 z2 z3 z4 z5))
            obtain ⟨g, hg, hfi⟩ := HNEXT.out (by decide) (by decide) (by decide)
            have HFS : Hid (FSt sg R w B g (w5.alloc (.cells #[.int .i64 5, .string bv, .string tk.x.1, .int .i64 tk.x.2, .slice tk.a (lenF tk.l) tk.c, .slice la ls.length lc, .int .i64 sym] 36))) := hid ⟨r, bs, _, _, hfi, HS6.out, HN.out⟩
            have HLT := hid hg
            clear hfi hg
            go_roundw
            case rel => exact ⟨g, HFS.out⟩
            case measure => exact Nat.lt_of_le_of_lt (HMU.out _ g HFS.out).2 HLT.out
end Go.Proofs.Ytfnfbljijkjkjaa
/- For StepFrees, plainly: binds that are kept in order as they come are those that are put in order at the end. -/
namespace Go.Proofs.Ytfnfbljijkjkjaa
open Go.RowKit Go.Deep

def leS (a b : ByteArray) : Bool := Op.bytesLess a.toList b.toList || (a.toList == b.toList)
/-- In order of their names. -/
def SrtB (l : List Bn) : Prop := l.Pairwise fun x y => 0 ≤ Lib.compareBytes y.1.data.toList x.1.data.toList
theorem room_perm {v : ByteArray} {t : Tn} {r : List (Tn × Tn)} {ks bs : List Bn} (h : ks.Perm bs) : roomS v t r ks = roomS v t r bs := by
  unfold roomS
  rw [h.all_eq]
theorem putB_perm {v : ByteArray} {t : Tn} {ks bs : List Bn} (h : ks.Perm bs) : (putB v t ks).Perm (putB v t bs) := h.map _
theorem putB_srt {v : ByteArray} {t : Tn} {ks : List Bn} (h : SrtB ks) : SrtB (putB v t ks) := by
  unfold SrtB putB
  rw [List.pairwise_map]
  exact h
theorem bn_le_trans {a b c : List UInt8} (h1 : 0 ≤ Lib.compareBytes b a) (h2 : 0 ≤ Lib.compareBytes c b) : 0 ≤ Lib.compareBytes c a := by
  have hc := bytes_cons c b a
  rcases Int.lt_or_eq_of_le h1 with h3 | h3
  · rcases Int.lt_or_eq_of_le h2 with h4 | h4
    · exact Int.le_of_lt (hc.gt h4 h3)
    · rw [hc.l h4.symm]; exact h1
  · rw [hc.r h3.symm]; exact h2
theorem bn_leS {a b : ByteArray} (h : leS a b = true) : 0 ≤ Lib.compareBytes b.data.toList a.data.toList := by
  have h2 := bytes_anti b.data.toList a.data.toList
  have h3 : Lib.compareBytes a.data.toList b.data.toList = if Op.bytesLess a.toList b.toList = true then -1 else if (a.toList == b.toList) = true then 0 else 1 := cmpS_three a b
  unfold leS at h
  rw [Bool.or_eq_true] at h
  rcases h with h | h
  · rw [if_pos h] at h3; omega
  · split at h3
    · omega
    · omega
theorem bn_not_leS {a b : ByteArray} (h : leS a b = false) : 0 ≤ Lib.compareBytes a.data.toList b.data.toList := by
  have h3 : Lib.compareBytes a.data.toList b.data.toList = if Op.bytesLess a.toList b.toList = true then -1 else if (a.toList == b.toList) = true then 0 else 1 := cmpS_three a b
  unfold leS at h
  rw [Bool.or_eq_false_iff] at h
  rw [if_neg (by rw [h.1]; simp), if_neg (by rw [h.2]; simp)] at h3
  omega
theorem srt_at {ks : List Bn} (h : SrtB ks) : ∀ {i j : Nat} (hi : i < ks.length) (hj : j < ks.length), i ≤ j → 0 ≤ Lib.compareBytes ks[j].1.data.toList ks[i].1.data.toList := by
  intro i j hi hj hij
  rcases Nat.lt_or_eq_of_le hij with hl | rfl
  · exact List.pairwise_iff_getElem.1 h i j hi hj hl
  · rw [bytes_refl]; exact Int.le_refl _
/-- Put in its place, what is in order stays so. -/
theorem with_srt {ks : List Bn} {k : Bn} {j : Nat} (hs : SrtB ks) (h1 : ∀ z ∈ ks.drop j, leS z.1 k.1 = false) (h2 : ∀ z, 0 < j → ks[j - 1]? = some z → leS z.1 k.1 = true) (hj : j ≤ ks.length) : SrtB (ks.take j ++ [k] ++ ks.drop j) := by
  have hs' : SrtB (ks.take j ++ ks.drop j) := by rw [List.take_append_drop]; exact hs
  obtain ⟨s1, s2, s3⟩ := List.pairwise_append.1 hs'
  have hlow : ∀ z ∈ ks.take j, 0 ≤ Lib.compareBytes k.1.data.toList z.1.data.toList := fun z hz => by
    have hj0 : 0 < j := by
      rcases Nat.eq_zero_or_pos j with h | h
      · rw [h] at hz; simp at hz
      · exact h
    obtain ⟨i, hi, rfl⟩ := List.getElem_of_mem hz
    rw [List.length_take] at hi
    have hl : j - 1 < ks.length := by omega
    have h3 := bn_leS (h2 _ hj0 (List.getElem?_eq_getElem hl))
    rw [List.getElem_take]
    exact bn_le_trans (srt_at hs (by omega) hl (by omega)) h3
  unfold SrtB
  rw [List.pairwise_append, List.pairwise_append]
  refine ⟨⟨s1, List.pairwise_singleton _ _, fun a ha b hb => by rw [List.mem_singleton.1 hb]; exact hlow a ha⟩, s2, fun a ha b hb => ?_⟩
  rcases List.mem_append.1 ha with ha | ha
  · exact s3 a ha b hb
  · rw [List.mem_singleton.1 ha]; exact bn_not_leS (h1 b hb)
theorem with_permB (ks : List Bn) (k : Bn) (j : Nat) : (ks.take j ++ [k] ++ ks.drop j).Perm (ks ++ [k]) := by
  have h : (ks.take j ++ [k] ++ ks.drop j).Perm (ks.take j ++ ks.drop j ++ [k]) := by
    rw [List.append_assoc, List.append_assoc]
    exact List.Perm.append_left _ List.perm_append_comm
  rw [List.take_append_drop] at h
  exact h
theorem bn_injB {l : List Bn} (hn : (l.map (·.1)).Nodup) {a b : Bn} (ha : a ∈ l) (hb : b ∈ l) (h : a.1 = b.1) : a = b := by
  obtain ⟨i, hi, rfl⟩ := List.getElem_of_mem ha
  obtain ⟨j, hj, rfl⟩ := List.getElem_of_mem hb
  have h3 : i = j := by
    refine (List.getElem_inj (h₀ := by simpa using hi) (h₁ := by simpa using hj) hn).1 ?_
    rw [List.getElem_map, List.getElem_map]
    exact h
  subst h3
  rfl
/-- Two rows of the same binds in order are one, if no name comes twice. -/
theorem srt_same {ms ks bs : List Bn} (hn : (bs.map (·.1)).Nodup) (h1 : ms.Perm bs) (h2 : ks.Perm bs) (s1 : SrtB ms) (s2 : SrtB ks) : ms = ks := by
  refine List.Perm.eq_of_pairwise (le := fun x y : Bn => 0 ≤ Lib.compareBytes y.1.data.toList x.1.data.toList) ?_ s1 s2 (h1.trans h2.symm)
  intro a b ha hb hab hba
  refine bn_injB hn (h1.mem_iff.1 ha) (h2.mem_iff.1 hb) ?_
  have h3 := bytes_anti a.1.data.toList b.1.data.toList
  have h4 := bytes_zero (a := a.1.data.toList) (b := b.1.data.toList) (by omega)
  have h5 : a.1.data = b.1.data := Array.toList_inj.1 h4
  obtain ⟨⟨a1⟩, a2⟩ := a
  obtain ⟨⟨b1⟩, b2⟩ := b
  dsimp only at h5
  rw [h5]
structure Idem (st : List (Tn × Tn)) (bs : List Bn) : Prop where
  s1 : ∀ b ∈ bs, ∀ p ∈ st, b.1 ∉ nmT p.1 ∧ b.1 ∉ nmT p.2
  s2 : ∀ b ∈ bs, ∀ c ∈ bs, b.1 ∉ nmT c.2
  nd : (bs.map (·.1)).Nodup
  nn : ∀ b ∈ bs, noName b.1 = false
  ok : ∀ b ∈ bs, okT b.2
theorem free_idem {sg : List Sym} : ∀ (f : Nat) (st : List (Tn × Tn)) (bs bs' : List Bn), freeF sg f st bs = some (0, bs') → (∀ p ∈ st, okT p.1 ∧ okT p.2) → Idem st bs → Idem [] bs' := by
  intro f
  induction f with
  | zero => intro st bs bs' h; rw [freeF] at h; cases h
  | succ f ih =>
    intro st bs bs' h ho hi
    cases st with
    | nil =>
      rw [freeF] at h
      cases h
      exact hi
    | cons p r =>
      obtain ⟨oA, oB⟩ := ho p (.head _)
      rw [freeF] at h
      by_cases h2 : (lookP sg p.1 p.2).act = 2
      · rw [if_pos h2] at h; cases h
      · rw [if_neg h2] at h
        by_cases h3 : (lookP sg p.1 p.2).act = 3
        · rw [if_pos h3] at h
          split at h
          · obtain ⟨hn, hok, hno, h4⟩ := look_set oA oB h3
            have hpn : ∀ b ∈ bs, b.1 ≠ (lookP sg p.1 p.2).bv ∧ b.1 ∉ nmT (lookP sg p.1 p.2).t := fun b hb => by
              have h5 := hi.s1 b hb p (.head _)
              rcases h4 with ⟨e1, e2, e3⟩ | ⟨e1, e2, e3⟩
              · rw [e1, e2]
                exact ⟨fun e => h5.1 (by unfold nmT; rw [e3, e]; simp), h5.2⟩
              · rw [e1, e2]
                exact ⟨fun e => h5.2 (by unfold nmT; rw [e3, e]; simp), h5.1⟩
            generalize (lookP sg p.1 p.2).bv = nm at h hn hno hpn
            generalize (lookP sg p.1 p.2).t = T at h hok hno hpn
            have hw : ∀ {t : Tn} {s : ByteArray}, okT t → s ∉ nmT T → s ∉ nmT t → s ∉ nmT (w1T nm T t) := fun ht h1 h2 h3 => by
              rcases nmT_w1 ht h3 with h4 | h4
              · exact h1 h4
              · exact h2 h4.1
            have hw2 : ∀ {t : Tn}, okT t → nm ∉ nmT (w1T nm T t) := fun ht h3 => by
              rcases nmT_w1 ht h3 with h4 | h4
              · exact hno h4
              · exact h4.2 rfl
            refine ih _ _ _ h (fun q hq => ?_) ⟨fun b hb q hq => ?_, fun b hb c hc => ?_, ?_, fun b hb => ?_, fun b hb => ?_⟩
            · obtain ⟨q', hq', rfl⟩ := List.mem_map.1 hq
              obtain ⟨o1, o2⟩ := ho q' (.tail _ hq')
              exact ⟨okT_w1 hok o1, okT_w1 hok o2⟩
            · obtain ⟨q', hq', rfl⟩ := List.mem_map.1 hq
              obtain ⟨o1, o2⟩ := ho q' (.tail _ hq')
              rcases List.mem_append.1 hb with hb | hb
              · obtain ⟨b', hb', rfl⟩ := List.mem_map.1 hb
                have h5 := hi.s1 b' hb' q' (.tail _ hq')
                exact ⟨hw o1 (hpn b' hb').2 h5.1, hw o2 (hpn b' hb').2 h5.2⟩
              · rw [List.mem_singleton.1 hb]
                exact ⟨hw2 o1, hw2 o2⟩
            · rcases List.mem_append.1 hc with hc | hc
              · obtain ⟨c', hc', rfl⟩ := List.mem_map.1 hc
                rcases List.mem_append.1 hb with hb | hb
                · obtain ⟨b', hb', rfl⟩ := List.mem_map.1 hb
                  exact hw (hi.ok c' hc') (hpn b' hb').2 (hi.s2 b' hb' c' hc')
                · rw [List.mem_singleton.1 hb]
                  exact hw2 (hi.ok c' hc')
              · rw [List.mem_singleton.1 hc]
                rcases List.mem_append.1 hb with hb | hb
                · obtain ⟨b', hb', rfl⟩ := List.mem_map.1 hb
                  exact (hpn b' hb').2
                · rw [List.mem_singleton.1 hb]
                  exact hno
            · have e : (putB nm T bs ++ [(nm, T)]).map (·.1) = bs.map (·.1) ++ [nm] := by
                unfold putB
                rw [List.map_append, List.map_map]
                rfl
              rw [e, List.nodup_append]
              refine ⟨hi.nd, by simp, fun a ha c hc => ?_⟩
              obtain ⟨b, hb, rfl⟩ := List.mem_map.1 ha
              rw [List.mem_singleton.1 hc]
              exact (hpn b hb).1
            · rcases List.mem_append.1 hb with hb | hb
              · obtain ⟨b', hb', rfl⟩ := List.mem_map.1 hb
                exact hi.nn b' hb'
              · rw [List.mem_singleton.1 hb]; exact hn
            · rcases List.mem_append.1 hb with hb | hb
              · obtain ⟨b', hb', rfl⟩ := List.mem_map.1 hb
                exact okT_w1 hok (hi.ok b' hb')
              · rw [List.mem_singleton.1 hb]; exact hok
          · cases h
        · rw [if_neg h3] at h
          by_cases h4 : (lookP sg p.1 p.2).act = 4
          · rw [if_pos h4] at h
            obtain ⟨_, _, _, _, e5⟩ := look_parts h4
            have hz : ∀ q ∈ (lookP sg p.1 p.2).ls, q.1 ∈ kidsL p.1.2 ∧ q.2 ∈ kidsL p.2.2 := fun q hq => by rw [e5] at hq; exact List.of_mem_zip hq
            refine ih _ _ _ h (fun q hq => ?_) ⟨fun b hb q hq => ?_, hi.s2, hi.nd, hi.nn, hi.ok⟩
            · rcases List.mem_append.1 hq with hq | hq
              · exact ⟨okF_kids.1 oA.2 _ (hz q hq).1, okF_kids.1 oB.2 _ (hz q hq).2⟩
              · exact ho q (.tail _ hq)
            · rcases List.mem_append.1 hq with hq | hq
              · have h5 := hi.s1 b hb p (.head _)
                refine ⟨fun h6 => h5.1 ?_, fun h6 => h5.2 ?_⟩
                · unfold nmT; exact List.mem_append_right _ (nmF_kids.2 ⟨_, (hz q hq).1, h6⟩)
                · unfold nmT; exact List.mem_append_right _ (nmF_kids.2 ⟨_, (hz q hq).2, h6⟩)
              · exact hi.s1 b hb q (.tail _ hq)
          · rw [if_neg h4] at h
            exact ih _ _ _ h (fun q hq => ho q (.tail _ hq)) ⟨fun b hb q hq => hi.s1 b hb q (.tail _ hq), hi.s2, hi.nd, hi.nn, hi.ok⟩
end Go.Proofs.Ytfnfbljijkjkjaa
