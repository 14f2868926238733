import Derived.Test.YtfnfbljijkjkjaaGreatKUgA
/- Plain: Free's answer, whole: sound, most general, and no bound variable stands in a bound term. -/
namespace Go.Proofs.YtfnfbljijkjkjaaGreat

def solS (sg : List Sym) (th : List Bn) (st : List (Tn × Tn)) : Prop := ∀ p ∈ st, eT (sgOf sg) th p.1 = eT (sgOf sg) th p.2
def solB (sg : List Sym) (th : List Bn) (bs : List Bn) : Prop := ∀ b ∈ bs, eT (sgOf sg) th (vr b.1) = eT (sgOf sg) th b.2
structure RTs (sg : List Sym) (st : List (Tn × Tn)) (bs : List Bn) : Prop where
  st : ∀ p ∈ st, RT sg p.1 ∧ RT sg p.2
  bs : ∀ b ∈ bs, okT b.2
theorem RTs.set {sg : List Sym} {p : Tn × Tn} {r : List (Tn × Tn)} {bs : List Bn} (h : RTs sg (p :: r) bs) (ha : (lookP sg p.1 p.2).act = 3) : RTs sg (putS (lookP sg p.1 p.2).bv (lookP sg p.1 p.2).t r) (putB (lookP sg p.1 p.2).bv (lookP sg p.1 p.2).t bs ++ [((lookP sg p.1 p.2).bv, (lookP sg p.1 p.2).t)]) := by
  obtain ⟨rA, rB⟩ := h.st p (.head _)
  obtain ⟨_, hok, _, h4⟩ := look_set (right_ok rA.right) (right_ok rB.right) ha
  have hT : RT sg (lookP sg p.1 p.2).t := by
    rcases h4 with ⟨_, e2, _⟩ | ⟨_, e2, _⟩
    · rw [e2]; exact rB
    · rw [e2]; exact rA
  refine ⟨fun q hq => ?_, fun b hb => ?_⟩
  · obtain ⟨q', hq', rfl⟩ := List.mem_map.1 hq
    obtain ⟨h1, h2⟩ := h.st q' (.tail _ hq')
    exact ⟨hT.w1 h1, hT.w1 h2⟩
  · rcases List.mem_append.1 hb with hb | hb
    · obtain ⟨b', hb', rfl⟩ := List.mem_map.1 hb
      exact okT_w1 hok (h.bs b' hb')
    · rw [List.mem_singleton.1 hb]; exact hok
theorem RTs.parts {sg : List Sym} {p : Tn × Tn} {r : List (Tn × Tn)} {bs : List Bn} (h : RTs sg (p :: r) bs) (ha : (lookP sg p.1 p.2).act = 4) : RTs sg ((lookP sg p.1 p.2).ls ++ r) bs := by
  obtain ⟨rA, rB⟩ := h.st p (.head _)
  obtain ⟨_, _, _, _, e5⟩ := look_parts ha
  refine ⟨fun q hq => ?_, h.bs⟩
  rcases List.mem_append.1 hq with hq | hq
  · rw [e5] at hq
    have := List.of_mem_zip hq
    exact ⟨rA.kid this.1, rB.kid this.2⟩
  · exact h.st q (.tail _ hq)
theorem RTs.tail {sg : List Sym} {p : Tn × Tn} {r : List (Tn × Tn)} {bs : List Bn} (h : RTs sg (p :: r) bs) : RTs sg r bs := ⟨fun q hq => h.st q (.tail _ hq), h.bs⟩
theorem look_acts' (sg : List Sym) (A B : Tn) : (lookP sg A B).act = 1 ∨ (lookP sg A B).act = 2 ∨ (lookP sg A B).act = 3 ∨ (lookP sg A B).act = 4 ∨ (lookP sg A B).act = 5 := by
  unfold lookP
  split
  · split
    · unfold ofVarsP
      split
      · exact .inl rfl
      · split <;> exact .inr (.inr (.inl rfl))
    · unfold ofVarP
      split
      · exact .inr (.inl rfl)
      · exact .inr (.inr (.inl rfl))
  · split
    · unfold ofVarP
      split
      · exact .inr (.inl rfl)
      · exact .inr (.inr (.inl rfl))
    · split
      · split
        · unfold sideP
          split
          · exact .inr (.inr (.inr (.inl rfl)))
          · exact .inr (.inl rfl)
        · exact .inr (.inr (.inr (.inr rfl)))
      · exact .inr (.inl rfl)
/-- Whatever solves the equations and the binds solves the answer, and the other way about. -/
theorem free_sound {sg : List Sym} (hJ : ∀ f, (sgOf sg).joins f = false) (hP : sg.map plainS = sg) (th : List Bn) : ∀ (f : Nat) (st : List (Tn × Tn)) (bs : List Bn) (R : Int × List Bn), freeF sg f st bs = some R → RTs sg st bs →
    (R.1 = 0 → ((solS sg th st ∧ solB sg th bs) ↔ solB sg th R.2)) ∧ (R.1 = 1 → (∀ b ∈ th, RightT (sgOf sg) (arAt sg) b.2) → ¬ (solS sg th st ∧ solB sg th bs)) := by
  intro f
  induction f with
  | zero => intro st bs R h; rw [freeF] at h; cases h
  | succ f ih =>
    intro st bs R h hR
    cases st with
    | nil =>
      rw [freeF] at h
      cases h
      exact ⟨fun _ => ⟨fun h => h.2, fun h => ⟨fun p hp => (by cases hp), h⟩⟩, fun h => (by cases h)⟩
    | cons p r =>
      obtain ⟨rA, rB⟩ := hR.st p (.head _)
      have hl := look_ok hJ hP th rA rB
      have hcons : solS sg th (p :: r) ↔ (eT (sgOf sg) th p.1 = eT (sgOf sg) th p.2 ∧ solS sg th r) := by
        constructor
        · intro h; exact ⟨h p (.head _), fun q hq => h q (.tail _ hq)⟩
        · rintro ⟨h1, h2⟩ q hq
          rcases List.mem_cons.1 hq with rfl | hq
          · exact h1
          · exact h2 q hq
      rw [freeF] at h
      by_cases h2 : (lookP sg p.1 p.2).act = 2
      · rw [if_pos h2] at h
        cases h
        exact ⟨fun h => (by cases h), fun _ hb hs => hl.two hb h2 (hcons.1 hs.1).1⟩
      · rw [if_neg h2] at h
        by_cases h3 : (lookP sg p.1 p.2).act = 3
        · rw [if_pos h3] at h
          split at h
          · obtain ⟨hn, hok, _, _⟩ := look_set (right_ok rA.right) (right_ok rB.right) h3
            obtain ⟨i1, i2⟩ := ih _ _ _ h (hR.set h3)
            have hiff : (solS sg th (p :: r) ∧ solB sg th bs) ↔ (solS sg th (putS (lookP sg p.1 p.2).bv (lookP sg p.1 p.2).t r) ∧ solB sg th (putB (lookP sg p.1 p.2).bv (lookP sg p.1 p.2).t bs ++ [((lookP sg p.1 p.2).bv, (lookP sg p.1 p.2).t)])) := by
              rw [hcons, hl.three h3]
              constructor
              · rintro ⟨⟨e, hs⟩, hbs⟩
                refine ⟨fun q hq => ?_, fun b hb => ?_⟩
                · obtain ⟨q', hq', rfl⟩ := List.mem_map.1 hq
                  have ho := hR.st q' (.tail _ hq')
                  show eT _ th (w1T _ _ q'.1) = eT _ th (w1T _ _ q'.2)
                  rw [eT_w1 hJ hn e _ _ (Nat.le_refl _) (right_ok ho.1.right), eT_w1 hJ hn e _ _ (Nat.le_refl _) (right_ok ho.2.right)]
                  exact hs q' hq'
                · rcases List.mem_append.1 hb with hb | hb
                  · obtain ⟨b', hb', rfl⟩ := List.mem_map.1 hb
                    show eT _ th (vr b'.1) = eT _ th (w1T _ _ b'.2)
                    rw [eT_w1 hJ hn e _ _ (Nat.le_refl _) (hR.bs b' hb')]
                    exact hbs b' hb'
                  · rw [List.mem_singleton.1 hb]
                    exact e
              · rintro ⟨hs, hbs⟩
                have e : eT (sgOf sg) th (vr (lookP sg p.1 p.2).bv) = eT (sgOf sg) th (lookP sg p.1 p.2).t := hbs _ (List.mem_append_right _ (List.mem_singleton.2 rfl))
                refine ⟨⟨e, fun q hq => ?_⟩, fun b hb => ?_⟩
                · have ho := hR.st q (.tail _ hq)
                  have h5 := hs _ (List.mem_map_of_mem (f := fun p' : Tn × Tn => (w1T (lookP sg p.1 p.2).bv (lookP sg p.1 p.2).t p'.1, w1T (lookP sg p.1 p.2).bv (lookP sg p.1 p.2).t p'.2)) hq)
                  dsimp only at h5
                  rw [eT_w1 hJ hn e _ _ (Nat.le_refl _) (right_ok ho.1.right), eT_w1 hJ hn e _ _ (Nat.le_refl _) (right_ok ho.2.right)] at h5
                  exact h5
                · have h5 := hbs _ (List.mem_append_left _ (List.mem_map_of_mem (f := fun b' : Bn => (b'.1, w1T (lookP sg p.1 p.2).bv (lookP sg p.1 p.2).t b'.2)) hb))
                  dsimp only at h5
                  rw [eT_w1 hJ hn e _ _ (Nat.le_refl _) (hR.bs b hb)] at h5
                  exact h5
            rw [hiff]
            exact ⟨i1, i2⟩
          · cases h
            exact ⟨fun h => (by cases h), fun h => (by cases h)⟩
        · rw [if_neg h3] at h
          by_cases h4 : (lookP sg p.1 p.2).act = 4
          · rw [if_pos h4] at h
            obtain ⟨i1, i2⟩ := ih _ _ _ h (hR.parts h4)
            have hiff : (solS sg th (p :: r) ∧ solB sg th bs) ↔ (solS sg th ((lookP sg p.1 p.2).ls ++ r) ∧ solB sg th bs) := by
              rw [hcons, hl.four h4]
              constructor
              · rintro ⟨⟨e, hs⟩, hbs⟩
                refine ⟨fun q hq => ?_, hbs⟩
                rcases List.mem_append.1 hq with hq | hq
                · exact e q hq
                · exact hs q hq
              · rintro ⟨hs, hbs⟩
                exact ⟨⟨fun q hq => hs q (List.mem_append_left _ hq), fun q hq => hs q (List.mem_append_right _ hq)⟩, hbs⟩
            rw [hiff]
            exact ⟨i1, i2⟩
          · rw [if_neg h4] at h
            obtain ⟨i1, i2⟩ := ih _ _ _ h hR.tail
            have h1 : eT (sgOf sg) th p.1 = eT (sgOf sg) th p.2 := hl.one (by
              rcases look_acts' sg p.1 p.2 with h | h | h | h | h
              · exact h
              · exact absurd h h2
              · exact absurd h h3
              · exact absurd h h4
              · exact absurd h hl.five)
            have hiff : (solS sg th (p :: r) ∧ solB sg th bs) ↔ (solS sg th r ∧ solB sg th bs) := by
              rw [hcons]
              exact ⟨fun h => ⟨h.1.2, h.2⟩, fun h => ⟨⟨h1, h.1⟩, h.2⟩⟩
            rw [hiff]
            exact ⟨i1, i2⟩
/-! ### no bound variable stands in a bound term -/
structure Idem (st : List (Tn × Tn)) (bs : List Bn) : Prop where
  s1 : ∀ b ∈ bs, ∀ p ∈ st, b.1 ∉ nmT p.1 ∧ b.1 ∉ nmT p.2
  s2 : ∀ b ∈ bs, ∀ c ∈ bs, b.1 ∉ nmT c.2
  nd : (bs.map (·.1)).Nodup
  nn : ∀ b ∈ bs, noName b.1 = false
  ok : ∀ b ∈ bs, okT b.2
theorem free_idem {sg : List Sym} : ∀ (f : Nat) (st : List (Tn × Tn)) (bs bs' : List Bn), freeF sg f st bs = some (0, bs') → (∀ p ∈ st, okT p.1 ∧ okT p.2) → Idem st bs → Idem [] bs' := by
  intro f
  induction f with
  | zero => intro st bs bs' h; rw [freeF] at h; cases h
  | succ f ih =>
    intro st bs bs' h ho hi
    cases st with
    | nil =>
      rw [freeF] at h
      cases h
      exact hi
    | cons p r =>
      obtain ⟨oA, oB⟩ := ho p (.head _)
      rw [freeF] at h
      by_cases h2 : (lookP sg p.1 p.2).act = 2
      · rw [if_pos h2] at h; cases h
      · rw [if_neg h2] at h
        by_cases h3 : (lookP sg p.1 p.2).act = 3
        · rw [if_pos h3] at h
          split at h
          · obtain ⟨hn, hok, hno, h4⟩ := look_set oA oB h3
            have hpn : ∀ b ∈ bs, b.1 ≠ (lookP sg p.1 p.2).bv ∧ b.1 ∉ nmT (lookP sg p.1 p.2).t := fun b hb => by
              have h5 := hi.s1 b hb p (.head _)
              rcases h4 with ⟨e1, e2, e3⟩ | ⟨e1, e2, e3⟩
              · rw [e1, e2]
                exact ⟨fun e => h5.1 (by unfold nmT; rw [e3, e]; simp), h5.2⟩
              · rw [e1, e2]
                exact ⟨fun e => h5.2 (by unfold nmT; rw [e3, e]; simp), h5.1⟩
            generalize (lookP sg p.1 p.2).bv = nm at h hn hno hpn
            generalize (lookP sg p.1 p.2).t = T at h hok hno hpn
            have hw : ∀ {t : Tn} {s : ByteArray}, okT t → s ∉ nmT T → s ∉ nmT t → s ∉ nmT (w1T nm T t) := fun ht h1 h2 h3 => by
              rcases nmT_w1 ht h3 with h4 | h4
              · exact h1 h4
              · exact h2 h4.1
            have hw2 : ∀ {t : Tn}, okT t → nm ∉ nmT (w1T nm T t) := fun ht h3 => by
              rcases nmT_w1 ht h3 with h4 | h4
              · exact hno h4
              · exact h4.2 rfl
            refine ih _ _ _ h (fun q hq => ?_) ⟨fun b hb q hq => ?_, fun b hb c hc => ?_, ?_, fun b hb => ?_, fun b hb => ?_⟩
            · obtain ⟨q', hq', rfl⟩ := List.mem_map.1 hq
              obtain ⟨o1, o2⟩ := ho q' (.tail _ hq')
              exact ⟨okT_w1 hok o1, okT_w1 hok o2⟩
            · obtain ⟨q', hq', rfl⟩ := List.mem_map.1 hq
              obtain ⟨o1, o2⟩ := ho q' (.tail _ hq')
              rcases List.mem_append.1 hb with hb | hb
              · obtain ⟨b', hb', rfl⟩ := List.mem_map.1 hb
                have h5 := hi.s1 b' hb' q' (.tail _ hq')
                exact ⟨hw o1 (hpn b' hb').2 h5.1, hw o2 (hpn b' hb').2 h5.2⟩
              · rw [List.mem_singleton.1 hb]
                exact ⟨hw2 o1, hw2 o2⟩
            · rcases List.mem_append.1 hc with hc | hc
              · obtain ⟨c', hc', rfl⟩ := List.mem_map.1 hc
                rcases List.mem_append.1 hb with hb | hb
                · obtain ⟨b', hb', rfl⟩ := List.mem_map.1 hb
                  exact hw (hi.ok c' hc') (hpn b' hb').2 (hi.s2 b' hb' c' hc')
                · rw [List.mem_singleton.1 hb]
                  exact hw2 (hi.ok c' hc')
              · rw [List.mem_singleton.1 hc]
                rcases List.mem_append.1 hb with hb | hb
                · obtain ⟨b', hb', rfl⟩ := List.mem_map.1 hb
                  exact (hpn b' hb').2
                · rw [List.mem_singleton.1 hb]
                  exact hno
            · have e : (putB nm T bs ++ [(nm, T)]).map (·.1) = bs.map (·.1) ++ [nm] := by
                unfold putB
                rw [List.map_append, List.map_map]
                rfl
              rw [e, List.nodup_append]
              refine ⟨hi.nd, by simp, fun a ha c hc => ?_⟩
              obtain ⟨b, hb, rfl⟩ := List.mem_map.1 ha
              rw [List.mem_singleton.1 hc]
              exact (hpn b hb).1
            · rcases List.mem_append.1 hb with hb | hb
              · obtain ⟨b', hb', rfl⟩ := List.mem_map.1 hb
                exact hi.nn b' hb'
              · rw [List.mem_singleton.1 hb]; exact hn
            · rcases List.mem_append.1 hb with hb | hb
              · obtain ⟨b', hb', rfl⟩ := List.mem_map.1 hb
                exact okT_w1 hok (hi.ok b' hb')
              · rw [List.mem_singleton.1 hb]; exact hok
          · cases h
        · rw [if_neg h3] at h
          by_cases h4 : (lookP sg p.1 p.2).act = 4
          · rw [if_pos h4] at h
            obtain ⟨_, _, _, _, e5⟩ := look_parts h4
            have hz : ∀ q ∈ (lookP sg p.1 p.2).ls, q.1 ∈ kidsL p.1.2 ∧ q.2 ∈ kidsL p.2.2 := fun q hq => by rw [e5] at hq; exact List.of_mem_zip hq
            refine ih _ _ _ h (fun q hq => ?_) ⟨fun b hb q hq => ?_, hi.s2, hi.nd, hi.nn, hi.ok⟩
            · rcases List.mem_append.1 hq with hq | hq
              · exact ⟨okF_kids.1 oA.2 _ (hz q hq).1, okF_kids.1 oB.2 _ (hz q hq).2⟩
              · exact ho q (.tail _ hq)
            · rcases List.mem_append.1 hq with hq | hq
              · have h5 := hi.s1 b hb p (.head _)
                refine ⟨fun h6 => h5.1 ?_, fun h6 => h5.2 ?_⟩
                · unfold nmT; exact List.mem_append_right _ (nmF_kids.2 ⟨_, (hz q hq).1, h6⟩)
                · unfold nmT; exact List.mem_append_right _ (nmF_kids.2 ⟨_, (hz q hq).2, h6⟩)
              · exact hi.s1 b hb q (.tail _ hq)
          · rw [if_neg h4] at h
            exact ih _ _ _ h (fun q hq => ho q (.tail _ hq)) ⟨fun b hb q hq => hi.s1 b hb q (.tail _ hq), hi.s2, hi.nd, hi.nn, hi.ok⟩
end Go.Proofs.YtfnfbljijkjkjaaGreat
