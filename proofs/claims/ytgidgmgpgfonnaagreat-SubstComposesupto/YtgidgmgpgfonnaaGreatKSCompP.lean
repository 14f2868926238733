import Derived.Test.YtgidgmgpgfonnaaGreatKSNoneP
/- Plain: the program's Compose and the document's answer the same of two substitutions. -/
namespace Go.Proofs.YtgidgmgpgfonnaaGreat
open Go.RowKit Go.Deep

def compT (as' : List Bn) (ts : List Tn) : List Bn := ((as'.zip ts).filter (fun p => !(p.2.1.1.toList == p.1.1.toList))).map (fun p => (p.1.1, p.2))
theorem comp1_bn : ∀ (as' : List Bn) (rs : List Kv), (comp1 as' rs).map bkBn = compT as' (rs.map Kv.tn)
  | [], _ => rfl
  | _ :: _, [] => rfl
  | b :: r, k :: s => by
    have ih := comp1_bn r s
    unfold comp1 compT at ih ⊢
    rw [List.map_cons, List.zip_cons_cons, List.zip_cons_cons, List.filter_cons, List.filter_cons]
    by_cases h : (!(k.x.1.toList == b.1.toList)) = true
    · rw [if_pos h, if_pos (show (!(k.tn.1.1.toList == b.1.toList)) = true from h), List.map_cons, List.map_cons, List.map_cons, ih]
      rfl
    · rw [if_neg h, if_neg (show ¬ (!(k.tn.1.1.toList == b.1.toList)) = true from h)]
      exact ih
theorem bn_inj {l : List Bn} (hn : (l.map (·.1)).Nodup) {a b : Bn} (ha : a ∈ l) (hb : b ∈ l) (h : a.1 = b.1) : a = b := by
  obtain ⟨i, hi, rfl⟩ := List.getElem_of_mem ha
  obtain ⟨j, hj, rfl⟩ := List.getElem_of_mem hb
  have hij : i = j := (List.getElem_inj (xs := l.map (·.1)) (h₀ := by simpa using hi) (h₁ := by simpa using hj) hn).1 (by simp only [List.getElem_map]; exact h)
  subst hij
  rfl
theorem sd_bn {R : List Bk} (h : Sd ltI R) : (R.map bkBn).Pairwise fun x y => ¬ cmpK y.1 x.1 < 0 := by
  rw [List.pairwise_map]
  exact h.imp fun {x y} hl hc => by
    have := (cmp_lt y x).1 hc
    rw [show ltI y x = false from hl] at this
    cases this
theorem comp_same {sg : List Sym} {as' bs C : List Bn} {ks ms R ks' ms' D : List Bk} {rs rs' : List Kv} (hOk : (sgOf sg).Ok (arAt sg)) (hA : SubOk sg as') (hB : SubOk sg bs) (h : CompR sg as' bs C ks ms R rs) (hl' : as'.length = rs'.length) (hr' : ∀ i (h : i < as'.length) (h' : i < rs'.length), rs'[i].tn = canonT (sgOf sg) (pinN bs as'[i].2.1 as'[i].2.2)) (hk' : ks' = comp1 as' rs') (hm' : ms'.map bkBn = bs.filter (fun b => (getB as' b.1).isNone)) (hs' : Sd ltI ks' → Sd ltI D) (hp' : (ks' ++ ms').Perm D) : C = D.map bkBn := by
  have hrt : ∀ i (h1 : i < as'.length) (h' : i < rs.length), rs[i].tn = canonT (sgOf sg) (pinN bs as'[i].2.1 as'[i].2.2) := fun i h1 h' => by
    have g1 := hA.rights as'[i] (List.getElem_mem h1)
    have g2 := h.can i h1 h'
    rw [putN_pin hB.nodup _ _ g1] at g2
    exact g2.2 hOk (pinN_right hB.rights _ _ g1)
  have et : rs.map Kv.tn = rs'.map Kv.tn := by
    refine List.ext_getElem (by simp only [List.length_map]; rw [← h.len, ← hl']) (fun i h1 h2 => ?_)
    rw [List.length_map] at h1 h2
    rw [List.getElem_map, List.getElem_map, hrt i (by rw [h.len]; exact h1) h1, hr' i (by rw [hl']; exact h2) h2]
  have ek : ks.map bkBn = ks'.map bkBn := by rw [h.eks, hk', comp1_bn, comp1_bn, et]
  have em : ms.map bkBn = ms'.map bkBn := by
    rw [h.ems, hm']
    refine List.filter_congr fun b _ => ?_
    rw [lk_get' hA.nodup]
  have hn := (comp_ok hOk hA hB h.len h.can h.eks h.ems h.perm).nodup
  have hsk : Sd ltI ks' := by
    refine sd_of_up ?_
    rw [hk']
    exact hA.names.sublist (comp1_names as' rs')
  have hp1 : (R.map bkBn).Perm (D.map bkBn) := by
    have g1 := (h.perm.map bkBn).symm
    have g2 := hp'.map bkBn
    rw [List.map_append, ek, em, ← List.map_append] at g1
    exact g1.trans g2
  rw [h.eC]
  refine List.Perm.eq_of_pairwise (fun a b ha hb hab hba => ?_) (sd_bn h.sd) (sd_bn (hs' hsk)) hp1
  have hb' : b ∈ R.map bkBn := hp1.mem_iff.2 hb
  refine bn_inj hn ha hb' ?_
  unfold cmpK at hab hba
  have h5 := bytes_anti a.1.data.toList b.1.data.toList
  exact bytes_eq (bytes_zero (by omega))
end Go.Proofs.YtgidgmgpgfonnaaGreat
