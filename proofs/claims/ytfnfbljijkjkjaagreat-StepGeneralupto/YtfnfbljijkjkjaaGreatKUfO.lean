import Derived.Test.YtfnfbljijkjkjaaGreatKUfN
/- Free, plainly: each step keeps equations small, and they come to an end. -/
namespace Go.Proofs.YtfnfbljijkjkjaaGreat

theorem DpOk.mono {M M' : Nat} (h : M ≤ M') : ∀ {st : List (Tn × Tn)}, DpOk M st → DpOk M' st
  | [], _ => trivial
  | _ :: _, hd => ⟨Nat.le_trans hd.1 h, DpOk.mono h hd.2⟩
theorem DpOk.len {M : Nat} {st : List (Tn × Tn)} (h : DpOk M st) : st.length ≤ M := by
  cases st with
  | nil => exact Nat.zero_le _
  | cons p r => have := h.1; simp only [List.length_cons]; omega
theorem mem_sizes : ∀ {l : List Tn} {t : Tn}, t ∈ l → sizeT t ≤ sizes l
  | [], _, h => by cases h
  | a :: r, t, h => by
    rw [sizes_cons]
    rcases List.mem_cons.1 h with rfl | h
    · omega
    · have := mem_sizes h; omega
theorem dp_zip {M : Nat} {r : List (Tn × Tn)} (hr : DpOk M r) : ∀ (l m : List Tn), r.length + 1 + sizes l ≤ M → DpOk M (l.zip m ++ r)
  | [], _, _ => hr
  | _ :: _, [], _ => hr
  | a :: l, b :: m, h => by
    rw [sizes_cons] at h
    have ih := dp_zip hr l m (by unfold sizeT at h; omega)
    refine ⟨?_, ih⟩
    have hl : ∀ l : List Tn, l.length ≤ sizes l := by
      intro l
      induction l with
      | nil => exact Nat.zero_le _
      | cons a r ih => rw [sizes_cons, List.length_cons]; unfold sizeT; omega
    show (l.zip m ++ r).length + 1 + nodesF a.2 ≤ M
    rw [List.length_append, List.length_zip]
    have := hl l
    unfold sizeT at h
    omega
theorem GoodS.parts {sg : List Sym} {L : List ByteArray} {M : Nat} {p : Tn × Tn} {r : List (Tn × Tn)} (h : GoodS L M (p :: r)) (ha : (lookP sg p.1 p.2).act = 4) : GoodS L M ((lookP sg p.1 p.2).ls ++ r) := by
  obtain ⟨h1, h2, h3, h4, h5⟩ := look_parts ha
  rw [h5]
  have hz : ∀ q ∈ (kidsL p.1.2).zip (kidsL p.2.2), q.1 ∈ kidsL p.1.2 ∧ q.2 ∈ kidsL p.2.2 := fun q hq => List.of_mem_zip hq
  have ho := h.ok p (.head _)
  have hn := h.nm p (.head _)
  have hs := h.sz p (.head _)
  refine ⟨fun q hq => ?_, fun q hq => ?_, fun q hq => ?_, dp_zip h.dp.2 _ _ (by have := h.dp.1; rw [← nodes_sizes]; exact this)⟩
  · rcases List.mem_append.1 hq with hq | hq
    · exact ⟨okF_kids.1 ho.1.2 _ (hz q hq).1, okF_kids.1 ho.2.2 _ (hz q hq).2⟩
    · exact h.ok q (.tail _ hq)
  · rcases List.mem_append.1 hq with hq | hq
    · refine ⟨fun s hs => hn.1 s ?_, fun s hs => hn.2 s ?_⟩
      · unfold nmT; exact List.mem_append_right _ (nmF_kids.2 ⟨_, (hz q hq).1, hs⟩)
      · unfold nmT; exact List.mem_append_right _ (nmF_kids.2 ⟨_, (hz q hq).2, hs⟩)
    · exact h.nm q (.tail _ hq)
  · rcases List.mem_append.1 hq with hq | hq
    · have e1 := mem_sizes (hz q hq).1
      have e2 := mem_sizes (hz q hq).2
      rw [← nodes_sizes] at e1 e2
      unfold sizeT at e1 e2
      omega
    · exact h.sz q (.tail _ hq)
theorem dp_put {M : Nat} {nm : ByteArray} {T : Tn} : ∀ {st : List (Tn × Tn)}, DpOk M st → (st.all fun p => roomT nm T p.1 && roomT nm T p.2) = true → DpOk (M + 400) (putS nm T st)
  | [], _, _ => trivial
  | p :: r, h, ha => by
    rw [List.all_cons, Bool.and_eq_true, Bool.and_eq_true] at ha
    refine ⟨?_, dp_put h.2 ha.2⟩
    have := room_nodes ha.1.1
    have e : (putS nm T r).length = r.length := by unfold putS; rw [List.length_map]
    show (putS nm T r).length + 1 + nodesF (w1T nm T p.1).2 ≤ M + 400
    rw [e]
    have h1 := h.1
    unfold w1T
    omega
theorem GoodS.set {sg : List Sym} {L : List ByteArray} {M : Nat} {p : Tn × Tn} {r : List (Tn × Tn)} (h : GoodS L M (p :: r)) (ha : (lookP sg p.1 p.2).act = 3) (hr : (r.all fun q => roomT (lookP sg p.1 p.2).bv (lookP sg p.1 p.2).t q.1 && roomT (lookP sg p.1 p.2).bv (lookP sg p.1 p.2).t q.2) = true) :
    ∃ L' : List ByteArray, L'.length < L.length ∧ GoodS L' (M + 400) (putS (lookP sg p.1 p.2).bv (lookP sg p.1 p.2).t r) := by
  have ho := h.ok p (.head _)
  have hn := h.nm p (.head _)
  obtain ⟨h1, h2, h3, h4⟩ := look_set ho.1 ho.2 ha
  have hL : (lookP sg p.1 p.2).bv ∈ L ∧ ∀ s ∈ nmT (lookP sg p.1 p.2).t, s ∈ L := by
    rcases h4 with ⟨e1, e2, e3⟩ | ⟨e1, e2, e3⟩
    · rw [e1, e2]
      exact ⟨hn.1 _ (by unfold nmT; rw [e3]; simp), hn.2⟩
    · rw [e1, e2]
      exact ⟨hn.2 _ (by unfold nmT; rw [e3]; simp), hn.1⟩
  generalize (lookP sg p.1 p.2).bv = nm at h1 h3 hL hr ⊢
  generalize (lookP sg p.1 p.2).t = T at h2 h3 hL hr ⊢
  refine ⟨L.filter (fun s => decide (s ≠ nm)), List.length_filter_lt_length_iff_exists.2 ⟨nm, hL.1, by simp⟩, ?_⟩
  have hnm : ∀ {t : Tn}, okT t → (∀ s ∈ nmT t, s ∈ L) → ∀ s ∈ nmT (w1T nm T t), s ∈ L.filter (fun s => decide (s ≠ nm)) := fun ht hs s h5 => by
    rw [List.mem_filter]
    rcases nmT_w1 ht h5 with h6 | ⟨h6, h7⟩
    · exact ⟨hL.2 s h6, decide_eq_true (fun (e : s = nm) => h3 (e ▸ h6))⟩
    · exact ⟨hs s h6, decide_eq_true h7⟩
  refine ⟨fun q hq => ?_, fun q hq => ?_, fun q hq => ?_, dp_put h.dp.2 hr⟩
  all_goals
    obtain ⟨q', hq', rfl⟩ := List.mem_map.1 hq
  · have := h.ok q' (.tail _ hq')
    exact ⟨okT_w1 h2 this.1, okT_w1 h2 this.2⟩
  · have h5 := h.ok q' (.tail _ hq')
    have h6 := h.nm q' (.tail _ hq')
    exact ⟨hnm h5.1 h6.1, hnm h5.2 h6.2⟩
  · have h5 := List.all_eq_true.1 hr q' hq'
    rw [Bool.and_eq_true] at h5
    have e1 := room_nodes h5.1
    have e2 := room_nodes h5.2
    show nodesF (w1N nm T q'.1.1 q'.1.2).2 ≤ _ ∧ nodesF (w1N nm T q'.2.1 q'.2.2).2 ≤ _
    omega
def sizeS (st : List (Tn × Tn)) : Nat := (st.map fun p => nodesF p.1.2 + 1).sum
theorem sizeS_app (a b : List (Tn × Tn)) : sizeS (a ++ b) = sizeS a + sizeS b := by simp [sizeS]
theorem sizeS_zip : ∀ (l m : List Tn), sizeS (l.zip m) ≤ sizes l
  | [], _ => by simp [sizeS]
  | _ :: _, [] => by simp [sizeS]
  | a :: l, b :: m => by
    have ih := sizeS_zip l m
    have e : sizeS ((a :: l).zip (b :: m)) = (nodesF a.2 + 1) + sizeS (l.zip m) := by simp [sizeS]
    rw [e, sizes_cons]
    unfold sizeT
    omega
/-- It ends. -/
theorem free_ends (sg : List Sym) : ∀ (n : Nat) (L : List ByteArray), L.length ≤ n → ∀ (k M : Nat) (st : List (Tn × Tn)) (bs : List Bn), GoodS L M st → sizeS st ≤ k → ∃ f, (freeF sg f st bs).isSome = true := by
  intro n
  induction n with
  | zero =>
    intro L hL k
    induction k with
    | zero =>
      intro M st bs h hk
      cases st with
      | nil => exact ⟨1, rfl⟩
      | cons p r => simp [sizeS] at hk
    | succ k ih =>
      intro M st bs h hk
      cases st with
      | nil => exact ⟨1, rfl⟩
      | cons p r =>
        have hs : sizeS (p :: r) = (nodesF p.1.2 + 1) + sizeS r := by simp [sizeS]
        by_cases h2 : (lookP sg p.1 p.2).act = 2
        · exact ⟨1, by rw [freeF, if_pos h2]; rfl⟩
        · by_cases h3 : (lookP sg p.1 p.2).act = 3
          · exfalso
            have ho := h.ok p (.head _)
            have hn := h.nm p (.head _)
            have hL0 : L = [] := List.eq_nil_of_length_eq_zero (by omega)
            subst hL0
            obtain ⟨_, _, _, h4⟩ := look_set ho.1 ho.2 h3
            rcases h4 with ⟨_, _, e3⟩ | ⟨_, _, e3⟩
            · have := hn.1 p.1.1.1 (by unfold nmT; rw [e3]; simp)
              cases this
            · have := hn.2 p.2.1.1 (by unfold nmT; rw [e3]; simp)
              cases this
          · by_cases h4 : (lookP sg p.1 p.2).act = 4
            · obtain ⟨_, _, _, _, h5⟩ := look_parts h4
              obtain ⟨f, hf⟩ := ih M ((lookP sg p.1 p.2).ls ++ r) bs (h.parts h4) (by
                rw [h5, sizeS_app]
                have := sizeS_zip (kidsL p.1.2) (kidsL p.2.2)
                rw [← nodes_sizes] at this
                omega)
              exact ⟨f + 1, by rw [freeF, if_neg h2, if_neg h3, if_pos h4]; exact hf⟩
            · obtain ⟨f, hf⟩ := ih M r bs h.tail (by omega)
              exact ⟨f + 1, by rw [freeF, if_neg h2, if_neg h3, if_neg h4]; exact hf⟩
  | succ n ihn =>
    intro L hL k
    induction k with
    | zero =>
      intro M st bs h hk
      cases st with
      | nil => exact ⟨1, rfl⟩
      | cons p r => simp [sizeS] at hk
    | succ k ih =>
      intro M st bs h hk
      cases st with
      | nil => exact ⟨1, rfl⟩
      | cons p r =>
        have hs : sizeS (p :: r) = (nodesF p.1.2 + 1) + sizeS r := by simp [sizeS]
        by_cases h2 : (lookP sg p.1 p.2).act = 2
        · exact ⟨1, by rw [freeF, if_pos h2]; rfl⟩
        · by_cases h3 : (lookP sg p.1 p.2).act = 3
          · cases hr : roomS (lookP sg p.1 p.2).bv (lookP sg p.1 p.2).t r bs
            · exact ⟨1, by rw [freeF, if_neg h2, if_pos h3, hr]; rfl⟩
            · have hr2 := hr
              unfold roomS at hr2
              rw [Bool.and_eq_true] at hr2
              obtain ⟨L', hL', hg⟩ := h.set h3 hr2.1
              obtain ⟨f, hf⟩ := ihn L' (by omega) _ (M + 400) _ (putB (lookP sg p.1 p.2).bv (lookP sg p.1 p.2).t bs ++ [((lookP sg p.1 p.2).bv, (lookP sg p.1 p.2).t)]) hg (Nat.le_refl _)
              exact ⟨f + 1, by rw [freeF, if_neg h2, if_pos h3, hr, if_pos rfl]; exact hf⟩
          · by_cases h4 : (lookP sg p.1 p.2).act = 4
            · obtain ⟨_, _, _, _, h5⟩ := look_parts h4
              obtain ⟨f, hf⟩ := ih M ((lookP sg p.1 p.2).ls ++ r) bs (h.parts h4) (by
                rw [h5, sizeS_app]
                have := sizeS_zip (kidsL p.1.2) (kidsL p.2.2)
                rw [← nodes_sizes] at this
                omega)
              exact ⟨f + 1, by rw [freeF, if_neg h2, if_neg h3, if_pos h4]; exact hf⟩
            · obtain ⟨f, hf⟩ := ih M r bs h.tail (by omega)
              exact ⟨f + 1, by rw [freeF, if_neg h2, if_neg h3, if_neg h4]; exact hf⟩
/-- How it stands between two steps. -/
structure FInv (sg : List Sym) (R : Int × List Bn) (f : Nat) (st : List (Tn × Tn)) (bs : List Bn) : Prop where
  res : freeF sg f st bs = some R
  good : ∃ L M, GoodS L M st ∧ M + 400 * L.length ≤ 1073741823 ∧ bs.length + L.length ≤ 1048576
  bsz : ∀ b ∈ bs, nodesF b.2.2 ≤ 1048576
theorem FInv.len {sg : List Sym} {R : Int × List Bn} {f : Nat} {st : List (Tn × Tn)} {bs : List Bn} (h : FInv sg R f st bs) : st.length ≤ 1073741823 ∧ bs.length ≤ 1048576 := by
  obtain ⟨L, M, h1, h2, h3⟩ := h.good
  have := h1.dp.len
  omega
theorem FInv.pos {sg : List Sym} {R : Int × List Bn} {f : Nat} {st : List (Tn × Tn)} {bs : List Bn} (h : FInv sg R f st bs) : ∃ g, f = g + 1 := by
  cases f with
  | zero => have := h.res; rw [freeF] at this; cases this
  | succ g => exact ⟨g, rfl⟩
theorem FInv.done {sg : List Sym} {R : Int × List Bn} {f : Nat} {bs : List Bn} (h : FInv sg R f [] bs) : R = (0, bs) := by
  obtain ⟨g, rfl⟩ := h.pos
  have := h.res
  rw [freeF] at this
  exact (Option.some.inj this).symm
theorem FInv.sides {sg : List Sym} {R : Int × List Bn} {f : Nat} {p : Tn × Tn} {r : List (Tn × Tn)} {bs : List Bn} (h : FInv sg R f (p :: r) bs) : (okT p.1 ∧ okT p.2) ∧ nodesF p.1.2 ≤ 1048576 ∧ nodesF p.2.2 ≤ 1048576 ∧ ∀ q ∈ r, nodesF q.1.2 ≤ 1048576 ∧ nodesF q.2.2 ≤ 1048576 := by
  obtain ⟨L, M, h1, _⟩ := h.good
  exact ⟨h1.ok p (.head _), (h1.sz p (.head _)).1, (h1.sz p (.head _)).2, fun q hq => h1.sz q (.tail _ hq)⟩
theorem FInv.fail {sg : List Sym} {R : Int × List Bn} {f : Nat} {p : Tn × Tn} {r : List (Tn × Tn)} {bs : List Bn} (h : FInv sg R f (p :: r) bs) (ha : (lookP sg p.1 p.2).act = 2) : R = (1, []) := by
  obtain ⟨g, rfl⟩ := h.pos
  have := h.res
  rw [freeF, if_pos ha] at this
  exact (Option.some.inj this).symm
theorem FInv.grown {sg : List Sym} {R : Int × List Bn} {f : Nat} {p : Tn × Tn} {r : List (Tn × Tn)} {bs : List Bn} (h : FInv sg R f (p :: r) bs) (ha : (lookP sg p.1 p.2).act = 3) (hr : roomS (lookP sg p.1 p.2).bv (lookP sg p.1 p.2).t r bs = false) : R = (2, []) := by
  obtain ⟨g, rfl⟩ := h.pos
  have := h.res
  rw [freeF, if_neg (by omega), if_pos ha, hr, if_neg (by simp)] at this
  exact (Option.some.inj this).symm
theorem FInv.set {sg : List Sym} {R : Int × List Bn} {f : Nat} {p : Tn × Tn} {r : List (Tn × Tn)} {bs : List Bn} (h : FInv sg R f (p :: r) bs) (ha : (lookP sg p.1 p.2).act = 3) (hr : roomS (lookP sg p.1 p.2).bv (lookP sg p.1 p.2).t r bs = true) :
    ∃ g, g < f ∧ FInv sg R g (putS (lookP sg p.1 p.2).bv (lookP sg p.1 p.2).t r) (putB (lookP sg p.1 p.2).bv (lookP sg p.1 p.2).t bs ++ [((lookP sg p.1 p.2).bv, (lookP sg p.1 p.2).t)]) := by
  obtain ⟨g, rfl⟩ := h.pos
  have hres := h.res
  rw [freeF, if_neg (by omega), if_pos ha, hr, if_pos rfl] at hres
  obtain ⟨L, M, h1, h2, h3⟩ := h.good
  have hr2 := hr
  unfold roomS at hr2
  rw [Bool.and_eq_true] at hr2
  obtain ⟨L', hL', hg⟩ := h1.set ha hr2.1
  have hsd := h.sides
  refine ⟨g, Nat.lt_succ_self g, hres, ⟨L', M + 400, hg, by omega, by rw [List.length_append]; unfold putB; rw [List.length_map]; simp only [List.length_cons, List.length_nil]; omega⟩, fun b hb => ?_⟩
  rcases List.mem_append.1 hb with hb | hb
  · obtain ⟨b', hb', rfl⟩ := List.mem_map.1 hb
    have := room_nodes (List.all_eq_true.1 hr2.2 b' hb')
    show nodesF (w1N _ _ b'.2.1 b'.2.2).2 ≤ _
    omega
  · rw [List.mem_singleton.1 hb]
    have ho := h.sides.1
    obtain ⟨_, _, _, h4⟩ := look_set ho.1 ho.2 ha
    show nodesF (lookP sg p.1 p.2).t.2 ≤ _
    rcases h4 with ⟨_, e2, _⟩ | ⟨_, e2, _⟩
    · rw [e2]; exact hsd.2.2.1
    · rw [e2]; exact hsd.2.1
theorem FInv.parts {sg : List Sym} {R : Int × List Bn} {f : Nat} {p : Tn × Tn} {r : List (Tn × Tn)} {bs : List Bn} (h : FInv sg R f (p :: r) bs) (ha : (lookP sg p.1 p.2).act = 4) : ∃ g, g < f ∧ FInv sg R g ((lookP sg p.1 p.2).ls ++ r) bs := by
  obtain ⟨g, rfl⟩ := h.pos
  have hres := h.res
  rw [freeF, if_neg (by omega), if_neg (by omega), if_pos ha] at hres
  obtain ⟨L, M, h1, h2, h3⟩ := h.good
  exact ⟨g, Nat.lt_succ_self g, hres, ⟨L, M, h1.parts ha, h2, h3⟩, h.bsz⟩
theorem FInv.next {sg : List Sym} {R : Int × List Bn} {f : Nat} {p : Tn × Tn} {r : List (Tn × Tn)} {bs : List Bn} (h : FInv sg R f (p :: r) bs) (h2 : (lookP sg p.1 p.2).act ≠ 2) (h3 : (lookP sg p.1 p.2).act ≠ 3) (h4 : (lookP sg p.1 p.2).act ≠ 4) : ∃ g, g < f ∧ FInv sg R g r bs := by
  obtain ⟨g, rfl⟩ := h.pos
  have hres := h.res
  rw [freeF, if_neg h2, if_neg h3, if_neg h4] at hres
  obtain ⟨L, M, h1, h5, h6⟩ := h.good
  exact ⟨g, Nat.lt_succ_self g, hres, ⟨L, M, h1.tail, h5, h6⟩, h.bsz⟩
end Go.Proofs.YtfnfbljijkjkjaaGreat
