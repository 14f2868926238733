import Derived.Test.YtgidgmgpgfonnaaGreatKTRVarsB
/- Plain: what Compose answers of two substitutions says of each variable what the second makes of what the first says; a restriction to a term's variables does for the term. -/
namespace Go.Proofs.YtgidgmgpgfonnaaGreat
open Go.RowKit Go.Deep

theorem getB_mem : ∀ {l : List Bn} {s : ByteArray} {t : Tn}, (l.map (·.1)).Nodup → (s, t) ∈ l → getB l s = some t
  | b :: r, s, t, hn, hm => by
    rw [List.map_cons, List.nodup_cons] at hn
    unfold getB
    rcases List.mem_cons.1 hm with rfl | hm
    · simp
    · have hne : ¬ b.1 = s := fun e => hn.1 (List.mem_map.2 ⟨(s, t), hm, e.symm⟩)
      rw [List.find?_cons_of_neg (by simpa using hne)]
      exact getB_mem hn.2 hm
theorem getB_some {l : List Bn} {s : ByteArray} {t : Tn} (h : getB l s = some t) : (s, t) ∈ l := by
  unfold getB at h
  cases hf : l.find? (fun b => decide (b.1 = s)) with
  | none => rw [hf] at h; cases h
  | some b =>
    rw [hf] at h
    have h1 := List.find?_some hf
    have h2 := List.mem_of_find?_eq_some hf
    simp only [decide_eq_true_eq] at h1
    have h3 : b.2 = t := Option.some.inj h
    rw [← h1, ← h3]
    exact h2
theorem getN_some {l : List Bn} {s : ByteArray} {t : Tn} (h : getB l s = some t) : getN l s = t := by unfold getN; rw [h]
theorem getN_none {l : List Bn} {s : ByteArray} (h : getB l s = none) : getN l s = ((s, 0), .nil) := by unfold getN; rw [h]
theorem comp1_mem {as' : List Bn} {rs : List Kv} {k : Bk} (h : k ∈ comp1 as' rs) : ∃ i, ∃ (h1 : i < as'.length) (h2 : i < rs.length), k = (as'[i].1, rs[i]) ∧ (rs[i].x.1.toList == as'[i].1.toList) = false := by
  unfold comp1 at h
  obtain ⟨p, hp, rfl⟩ := List.mem_map.1 h
  obtain ⟨hp1, hp2⟩ := List.mem_filter.1 hp
  obtain ⟨i, hi, rfl⟩ := List.getElem_of_mem hp1
  rw [List.length_zip] at hi
  refine ⟨i, by omega, by omega, ?_, ?_⟩
  · simp
  · simpa using hp2
theorem comp1_in {as' : List Bn} {rs : List Kv} {i : Nat} (h1 : i < as'.length) (h2 : i < rs.length) (h : (rs[i].x.1.toList == as'[i].1.toList) = false) : (as'[i].1, rs[i]) ∈ comp1 as' rs := by
  unfold comp1
  refine List.mem_map.2 ⟨(as'[i], rs[i]), List.mem_filter.2 ⟨?_, by simp [h]⟩, rfl⟩
  have hz : i < (as'.zip rs).length := by rw [List.length_zip]; omega
  have := List.getElem_mem hz
  rwa [List.getElem_zip] at this
theorem comp1_names (as' : List Bn) (rs : List Kv) : ((comp1 as' rs).map (·.1)).Sublist (as'.map (·.1)) := by
  unfold comp1
  rw [List.map_map]
  have h1 : ((as'.zip rs).filter (fun p => !(p.2.x.1.toList == p.1.1.toList))).map ((·.1) ∘ fun p => (p.1.1, p.2)) = (((as'.zip rs).filter (fun p => !(p.2.x.1.toList == p.1.1.toList))).map Prod.fst).map (·.1) := by rw [List.map_map]; rfl
  rw [h1]
  refine List.Sublist.map _ ?_
  refine (List.Sublist.map Prod.fst List.filter_sublist).trans ?_
  have : ∀ (l : List Bn) (m : List Kv), ((l.zip m).map Prod.fst).Sublist l := fun l => by
    induction l with
    | nil => intro m; simp
    | cons x r ih =>
      intro m
      cases m with
      | nil => simp
      | cons y s => simpa using ih s
  exact this as' rs
/-- What Compose answered, read as binds. -/
structure CompOk (sg : List Sym) (as' bs : List Bn) (C : List Bn) : Prop where
  nodup : (C.map (·.1)).Nodup
  right : ∀ b ∈ C, RightT (sgOf sg) (arAt sg) b.2
  get : ∀ s, noName s = false → canonT (sgOf sg) (getN C s) = canonT (sgOf sg) (subN (getN bs) (getN as' s))
theorem lk_none {as' : List Bn} {s : ByteArray} (h : (lkB as' s).isNone = true) (hn : (as'.map (·.1)).Nodup) : ∀ b ∈ as', b.1 ≠ s := fun b hb e => by
  rw [lk_get' hn] at h
  have : getB as' s = some b.2 := getB_mem hn (by rw [← e]; exact hb)
  rw [this] at h
  cases h
theorem comp_ok {sg : List Sym} {as' bs : List Bn} {ks ms R : List Bk} {rs : List Kv} (hOk : (sgOf sg).Ok (arAt sg)) (hA : SubOk sg as') (hB : SubOk sg bs) (hl : as'.length = rs.length) (hr : ∀ i (h : i < as'.length) (h' : i < rs.length), CanR sg (putN (lkB bs) as'[i].2.1 as'[i].2.2) rs[i].tn) (hk : ks = comp1 as' rs) (hm : ms.map bkBn = bs.filter (fun b => (lkB as' b.1).isNone)) (hp : (ks ++ ms).Perm R) : CompOk sg as' bs (R.map bkBn) := by
  have hrt : ∀ i (h : i < as'.length) (h' : i < rs.length), rs[i].tn = canonT (sgOf sg) (subN (getN bs) as'[i].2) := fun i h h' => by
    have h1 := hA.rights as'[i] (List.getElem_mem h)
    have h2 := hr i h h'
    rw [putN_pin hB.nodup _ _ h1] at h2
    rw [h2.2 hOk (pinN_right hB.rights _ _ h1), pinN_sub]
  have hgB : RightG (sgOf sg) (arAt sg) (getN bs) := getN_rightG hB.rights
  have hcan : ∀ i (h : i < as'.length), CanT (sgOf sg) (arAt sg) (canonT (sgOf sg) (subN (getN bs) as'[i].2)) := fun i h => canonT_can hOk (subG_right hgB (hA.rights _ (List.getElem_mem h)))
  have hn1 : ((ks ++ ms).map (·.1)).Nodup := by
    rw [List.map_append, List.nodup_append]
    refine ⟨?_, ?_, ?_⟩
    · rw [hk]; exact hA.nodup.sublist (comp1_names as' rs)
    · have e : ms.map (·.1) = (ms.map bkBn).map (·.1) := by rw [List.map_map]; rfl
      rw [e, hm]
      exact hB.nodup.sublist (List.Sublist.map _ List.filter_sublist)
    · intro a ha b hb e
      subst e
      obtain ⟨k, hk1, rfl⟩ := List.mem_map.1 ha
      obtain ⟨m, hm1, hm2⟩ := List.mem_map.1 hb
      rw [hk] at hk1
      obtain ⟨i, h1, h2, rfl, _⟩ := comp1_mem hk1
      have hm3 : bkBn m ∈ bs.filter (fun b => (lkB as' b.1).isNone) := by rw [← hm]; exact List.mem_map_of_mem hm1
      have hm4 := (List.mem_filter.1 hm3).2
      exact lk_none hm4 hA.nodup as'[i] (List.getElem_mem h1) hm2.symm
  have hnC : ((R.map bkBn).map (·.1)).Nodup := by
    have e : (R.map bkBn).map (·.1) = R.map (·.1) := by rw [List.map_map]; rfl
    rw [e]
    exact (hp.map (·.1)).nodup_iff.1 hn1
  have hin : ∀ b : Bn, b ∈ R.map bkBn ↔ (∃ i, ∃ (h1 : i < as'.length) (h2 : i < rs.length), b = (as'[i].1, rs[i].tn) ∧ (rs[i].x.1.toList == as'[i].1.toList) = false) ∨ (b ∈ bs ∧ (lkB as' b.1).isNone = true) := fun b => by
    rw [← (hp.map bkBn).mem_iff, List.map_append, List.mem_append, hm, List.mem_filter]
    constructor
    · rintro (h | h)
      · obtain ⟨k, hk1, rfl⟩ := List.mem_map.1 h
        rw [hk] at hk1
        obtain ⟨i, h1, h2, rfl, h3⟩ := comp1_mem hk1
        exact .inl ⟨i, h1, h2, rfl, h3⟩
      · exact .inr h
    · rintro (⟨i, h1, h2, rfl, h3⟩ | h)
      · refine .inl (List.mem_map.2 ⟨(as'[i].1, rs[i]), by rw [hk]; exact comp1_in h1 h2 h3, rfl⟩)
      · exact .inr h
  refine ⟨hnC, fun b hb => ?_, fun s hs => ?_⟩
  · rcases (hin b).1 hb with ⟨i, h1, h2, rfl, _⟩ | ⟨h, _⟩
    · show RightT _ _ rs[i].tn
      rw [hrt i h1 h2]
      exact right_of_can (hcan i h1)
    · exact hB.rights b h
  · cases ha : getB as' s with
    | some t =>
      obtain ⟨i, hi, he⟩ := List.getElem_of_mem (getB_some ha)
      have hi2 : i < rs.length := by omega
      have e1 : as'[i].1 = s := by rw [he]
      have e2 : as'[i].2 = t := by rw [he]
      rw [getN_some ha]
      by_cases heq : (rs[i].x.1.toList == as'[i].1.toList) = true
      · have hno : getB (R.map bkBn) s = none := getB_none fun b hb e => by
          rcases (hin b).1 hb with ⟨j, h1, h2, rfl, h3⟩ | ⟨_, h⟩
          · have hij : i = j := by
              have hnd := hA.nodup
              have := (List.getElem_inj (xs := as'.map (·.1)) (h₀ := by simpa using hi) (h₁ := by simpa using h1) hnd).1 (by simp only [List.getElem_map]; rw [e1]; exact e.symm)
              exact this
            subst hij
            rw [heq] at h3
            cases h3
          · rw [e] at h
            exact lk_none h hA.nodup as'[i] (List.getElem_mem hi) e1
        rw [getN_none hno]
        have hx : rs[i].x.1 = s := by
          rw [← e1]
          have h5 : rs[i].x.1.toList = as'[i].1.toList := by simpa using heq
          rw [ByteArray.toList_eq, ByteArray.toList_eq] at h5
          exact bytes_eq h5
        have hc := hcan i hi
        rw [← hrt i hi hi2] at hc
        have hc1 := hc.1
        unfold can1 at hc1
        rw [if_pos (by show noName rs[i].x.1 = false; rw [hx]; exact hs)] at hc1
        have hl0 : rs[i].l = .nil := len_nil (by rw [← kids_len]; have := hc1.2; simp only [Kv.tn] at this; rw [this]; rfl)
        have e3 : rs[i].tn = ((s, 0), .nil) := by
          have : rs[i].x = (s, 0) := Prod.ext hx hc1.1
          unfold Kv.tn
          rw [this, hl0]
        rw [← e2, ← canonT_twice hOk (subG_right hgB (hA.rights _ (List.getElem_mem hi))), ← hrt i hi hi2, e3]
      · have heq' : (rs[i].x.1.toList == as'[i].1.toList) = false := by simpa using heq
        have hmem : (s, rs[i].tn) ∈ R.map bkBn := (hin _).2 (.inl ⟨i, hi, hi2, by rw [e1], heq'⟩)
        rw [getN_some (getB_mem hnC hmem), hrt i hi hi2, e2]
        exact canonT_twice hOk (subG_right hgB (by rw [← e2]; exact hA.rights _ (List.getElem_mem hi)))
    | none =>
      rw [getN_none ha]
      have e0 : subN (getN bs) ((s, 0), .nil) = getN bs s := by
        unfold subN
        rw [if_neg (by simp [hs])]
      rw [e0]
      have hlk : (lkB as' s).isNone = true := by rw [lk_get' hA.nodup, ha]; rfl
      cases hb : getB bs s with
      | some t =>
        have hmem : (s, t) ∈ R.map bkBn := (hin _).2 (.inr ⟨getB_some hb, hlk⟩)
        rw [getN_some (getB_mem hnC hmem), getN_some hb]
      | none =>
        have hno : getB (R.map bkBn) s = none := getB_none fun b hbm e => by
          rcases (hin b).1 hbm with ⟨j, h1, h2, rfl, h3⟩ | ⟨h, _⟩
          · have e' : as'[j].1 = s := e
            have := getB_mem (s := s) (t := as'[j].2) hA.nodup (by rw [← e']; exact List.getElem_mem h1)
            rw [ha] at this
            cases this
          · have := getB_mem (s := s) (t := b.2) hB.nodup (by rw [← e]; exact h)
            rw [hb] at this
            cases this
        rw [getN_none hno, getN_none hb]
/-- Of the variables of a term alone. -/
theorem getB_filter {ns : List ByteArray} {s : ByteArray} (hs : inL ns s = true) : ∀ l : List Bn, getB (l.filter (fun b => inL ns b.1)) s = getB l s
  | [] => rfl
  | b :: r => by
    have ih := getB_filter hs r
    unfold getB at ih ⊢
    by_cases e : b.1 = s
    · have hb : inL ns b.1 = true := by rw [e]; exact hs
      rw [List.filter_cons_of_pos (p := fun b : Bn => inL ns b.1) hb]
      simp [e]
    · by_cases hb : inL ns b.1 = true
      · rw [List.filter_cons_of_pos (p := fun b : Bn => inL ns b.1) hb, List.find?_cons_of_neg (by simpa using e), List.find?_cons_of_neg (by simpa using e)]
        exact ih
      · rw [List.filter_cons_of_neg (p := fun b : Bn => inL ns b.1) hb, List.find?_cons_of_neg (by simpa using e)]
        exact ih
theorem pinF_filter {ns : List ByteArray} (bs : List Bn) : ∀ F : Fo, (∀ s : ByteArray, s.data.toList ∈ namesFo F → inL ns s = true) → pinF (bs.filter (fun b => inL ns b.1)) F = pinF bs F
  | .nil, _ => rfl
  | .node B O x l r, h => by
    unfold pinF
    have h1 := pinF_filter bs l (fun s hs => h s (by simp only [namesFo, List.mem_append]; exact .inl (.inr hs)))
    have h2 := pinF_filter bs r (fun s hs => h s (by simp only [namesFo, List.mem_append]; exact .inr hs))
    rw [h1, h2]
    by_cases hx : noName x.1 = true
    · rw [if_pos hx, if_pos hx]
    · rw [if_neg hx, if_neg hx]
      have h3 : inL ns x.1 = true := h x.1 (by simp only [namesFo, List.mem_append, namesN]; rw [if_neg hx]; exact .inl (.inl (List.mem_singleton.2 rfl)))
      have h4 : getN (bs.filter (fun b => inL ns b.1)) x.1 = getN bs x.1 := by unfold getN; rw [getB_filter h3]
      rw [h4]
theorem pinN_filter {ns : List ByteArray} (bs : List Bn) (x : ByteArray × Int) (l : Fo) (h : ∀ s : ByteArray, s.data.toList ∈ namesN x ++ namesFo l → inL ns s = true) : pinN (bs.filter (fun b => inL ns b.1)) x l = pinN bs x l := by
  unfold pinN
  rw [pinF_filter bs l (fun s hs => h s (List.mem_append.2 (.inr hs)))]
  by_cases hx : noName x.1 = true
  · rw [if_pos hx, if_pos hx]
  · rw [if_neg hx, if_neg hx]
    have h3 : inL ns x.1 = true := h x.1 (List.mem_append.2 (.inl (by unfold namesN; rw [if_neg hx]; exact List.mem_singleton.2 rfl)))
    unfold getN
    rw [getB_filter h3]
theorem names_small {w : World} : ∀ {F : Fo} {b o : Nat}, KidsAt w F b o → ∀ nm ∈ namesFo F, nm.length ≤ maxLen
  | .nil, _, _, _, nm, h => by simp [namesFo] at h
  | .node _ _ x l r, b, o, ⟨⟨a, c, _, _, _, hs, hl⟩, hr⟩, nm, h => by
    simp only [namesFo, List.mem_append] at h
    rcases h with (h | h) | h
    · unfold namesN at h
      split at h
      · cases h
      · rw [List.mem_singleton.1 h]; exact hs.name
    · rcases hl with rfl | ⟨b', o', _, hk⟩
      · simp [namesFo] at h
      · exact names_small hk nm h
    · exact names_small hr nm h
theorem names_small_tm {w : World} {x : ByteArray × Int} {a : Option Addr} {c : Nat} {l : Fo} (h : TmAt w x a c l) : ∀ nm ∈ namesN x ++ namesFo l, nm.length ≤ maxLen := fun nm hn => by
  rcases List.mem_append.1 hn with hn | hn
  · unfold namesN at hn
    split at hn
    · cases hn
    · rw [List.mem_singleton.1 hn]; exact h.sizes.name
  · rcases h.args with rfl | ⟨b, o, _, hk⟩
    · simp [namesFo] at hn
    · exact names_small hk nm hn
/-- A row of names as texts in memory. -/
theorem strs_of {w : World} {B n : Nat} {v : Value} {l : List Nm} (h : w.ownsRow B 9 1 v n (l.map encStr)) (hs : ∀ nm ∈ l, nm.length ≤ maxLen) : ∃ a cap, v = .slice a (l.map (fun nm => (⟨nm.toArray⟩ : ByteArray))).length cap ∧ StrsAt w a (l.map (fun nm => (⟨nm.toArray⟩ : ByteArray))).length (l.map (fun nm => (⟨nm.toArray⟩ : ByteArray))) := by
  obtain ⟨a, cap, rfl, h1, h2, h3, _⟩ := texts_of_owns h
  have hn : n = (l.map (fun nm => (⟨nm.toArray⟩ : ByteArray))).length := by rw [List.length_map]; exact h3.len
  subst hn
  refine ⟨a, cap, rfl, rfl, by omega, fun i hi => ?_, fun s hsm => ?_⟩
  · obtain ⟨b, off, h4, h5⟩ := h3.cells i (by simpa using hi)
    exact ⟨b, off, h4, by simpa using h5⟩
  · obtain ⟨nm, hnm, rfl⟩ := List.mem_map.1 hsm
    have := hs nm hnm
    simpa [ByteArray.size] using this
theorem inL_names {l : List Nm} {s : ByteArray} (h : s.data.toList ∈ l) : inL (l.map (fun nm => (⟨nm.toArray⟩ : ByteArray))) s = true := by
  unfold inL
  refine List.any_eq_true.2 ⟨s, List.mem_map.2 ⟨s.data.toList, h, ?_⟩, by simp⟩
  obtain ⟨⟨d⟩⟩ := s
  rfl
end Go.Proofs.YtgidgmgpgfonnaaGreat
