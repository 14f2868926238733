import Derived.Test.YtgidgmgpgfonnaaGreatKSSameB
/- Plain: binds that are in order stay so when they are sorted; nothing, composed with a substitution on either side, is that substitution. -/
namespace Go.Proofs.YtgidgmgpgfonnaaGreat
open Go.RowKit Go.Deep

theorem name_inj {ks : List Bk} (hn : (ks.map (·.1)).Nodup) {a b : Bk} (ha : a ∈ ks) (hb : b ∈ ks) (h : a.1 = b.1) : a = b := by
  obtain ⟨i, hi, rfl⟩ := List.getElem_of_mem ha
  obtain ⟨j, hj, rfl⟩ := List.getElem_of_mem hb
  have hij : i = j := (List.getElem_inj (xs := ks.map (·.1)) (h₀ := by simpa using hi) (h₁ := by simpa using hj) hn).1 (by simp only [List.getElem_map]; exact h)
  subst hij
  rfl
/-- In order, the names unlike: told by which they are. -/
theorem sd_same {ks R : List Bk} (hn : (ks.map (·.1)).Nodup) (h1 : Sd ltI ks) (h2 : Sd ltI R) (hp : ks.Perm R) : ks = R :=
  List.Perm.eq_of_pairwise (fun a b ha hb hab hba => name_inj hn ha (hp.mem_iff.2 hb) (by
    have h3 : ¬ cmpK b.1 a.1 < 0 := fun h => by have := (cmp_lt b a).1 h; rw [show ltI b a = false from hab] at this; cases this
    have h4 : ¬ cmpK a.1 b.1 < 0 := fun h => by have := (cmp_lt a b).1 h; rw [show ltI a b = false from hba] at this; cases this
    unfold cmpK at h3 h4
    have h5 := bytes_anti a.1.data.toList b.1.data.toList
    exact bytes_eq (bytes_zero (by omega)))) h1 h2 hp
theorem sd_of_up {ks : List Bk} (h : (ks.map (·.1)).Pairwise fun x y => LtN x.data.toList y.data.toList) : Sd ltI ks := by
  rw [List.pairwise_map] at h
  refine h.imp fun {x y} hlt => ?_
  show ltI y x = false
  cases hl : ltI y x with
  | false => rfl
  | true =>
    have h1 := (cmp_lt y x).2 hl
    unfold cmpK at h1
    have h2 := bytes_anti x.1.data.toList y.1.data.toList
    have h3 : Lib.compareBytes x.1.data.toList y.1.data.toList = -1 := hlt
    omega
theorem up_nodup {l : List ByteArray} (h : l.Pairwise fun x y => LtN x.data.toList y.data.toList) : l.Nodup := by
  rw [List.nodup_iff_pairwise_ne]
  exact h.imp fun {x y} hlt e => by rw [e] at hlt; exact ltN_irrefl _ hlt
theorem SubOk.names {sg : List Sym} {bs : List Bn} (h : SubOk sg bs) : (bs.map (·.1)).Pairwise fun x y => LtN x.data.toList y.data.toList := by
  rw [List.pairwise_map]
  exact h.up
/-- Sorted, what is in order stays. -/
theorem sorted_same {ks R : List Bk} (hu : (ks.map (·.1)).Pairwise fun x y => LtN x.data.toList y.data.toList) (h2 : Sd ltI R) (hp : ks.Perm R) : R = ks := (sd_same (up_nodup hu) (sd_of_up hu) h2 hp).symm
/-- Nothing, then a substitution. -/
theorem none_left {sg : List Sym} {bs : List Bn} {ks ms R : List Bk} {rs : List Kv} (hB : SubOk sg bs) (hk : ks = comp1 [] rs) (hm : ms.map bkBn = bs.filter (fun b => (lkB [] b.1).isNone)) (hs : Sd ltI R) (hp : (ks ++ ms).Perm R) : R.map bkBn = bs := by
  have e1 : ks = [] := by rw [hk]; rfl
  have e2 : ms.map bkBn = bs := by
    rw [hm]
    exact List.filter_eq_self.2 (fun b _ => rfl)
  rw [e1, List.nil_append] at hp
  have e3 : ms.map (·.1) = bs.map (·.1) := by rw [← e2, List.map_map]; rfl
  rw [sorted_same (by rw [e3]; exact hB.names) hs hp, e2]
theorem sameA_of : ∀ {a b : List Bn}, a.length = b.length → (∀ i (h : i < a.length) (h' : i < b.length), same1 a[i] b[i] = true) → sameA a b = true
  | [], [], _, _ => rfl
  | x :: r, y :: s, hl, h => by
    unfold sameA
    rw [sameA_of (by simpa using hl) (fun i h1 h2 => by have := h (i + 1) (by simpa using h1) (by simpa using h2); simpa using this)]
    have := h 0 (by simp) (by simp)
    rw [Bool.and_true]
    simpa using this
/-- A substitution, then nothing. -/
theorem none_right {sg : List Sym} {as' : List Bn} {ks ms R : List Bk} {rs : List Kv} (hOk : (sgOf sg).Ok (arAt sg)) (hA : SubOk sg as') (hl : as'.length = rs.length) (hr : ∀ i (h : i < as'.length) (h' : i < rs.length), CanR sg (putN (lkB []) as'[i].2.1 as'[i].2.2) rs[i].tn) (hk : ks = comp1 as' rs) (hm : ms.map bkBn = ([] : List Bn).filter (fun b => (lkB as' b.1).isNone)) (hs : Sd ltI R) (hp : (ks ++ ms).Perm R) : sameA (R.map bkBn) as' = true := by
  have hrt : ∀ i (h : i < as'.length) (h' : i < rs.length), rs[i].tn = canonT (sgOf sg) as'[i].2 := fun i h h' => by
    have h1 := hA.rights as'[i] (List.getElem_mem h)
    have h2 := hr i h h'
    rw [putN_pin (bs := []) (by simp) _ _ h1, pinN_sub, sub_id h1] at h2
    exact h2.2 hOk h1
  have hex : ∀ i (h : i < as'.length) (h' : i < rs.length), exN rs[i].x as'[i].2.1 rs[i].l as'[i].2.2 = true := fun i h h' => by
    have h1 := hA.can as'[i] (List.getElem_mem h)
    rw [← hrt i h h'] at h1
    exact h1
  have hne : ∀ p ∈ as'.zip rs, (!(p.2.x.1.toList == p.1.1.toList)) = true := fun p hp => by
    obtain ⟨i, hi, rfl⟩ := List.getElem_of_mem hp
    rw [List.length_zip] at hi
    rw [List.getElem_zip]
    have h1 := hex i (by omega) (by omega)
    have h2 := hA.self as'[i] (List.getElem_mem _)
    unfold exN at h1
    simp only [Bool.and_eq_true] at h1
    have h3 : rs[i].x.1.toList = as'[i].2.1.1.toList := by simpa using h1.1.1.1
    show (!(rs[i].x.1.toList == as'[i].1.toList)) = true
    rw [h3, h2]
    rfl
  have e0 : ms = [] := by
    have : ms.map bkBn = [] := hm
    exact List.map_eq_nil_iff.1 this
  have e1 : ks = (as'.zip rs).map (fun p => (p.1.1, p.2)) := by
    rw [hk]
    unfold comp1
    rw [List.filter_eq_self.2 hne]
  have e2 : ks.map (·.1) = as'.map (·.1) := by
    rw [e1, List.map_map]
    have : as'.map (·.1) = ((as'.zip rs).map Prod.fst).map (·.1) := by rw [List.map_fst_zip (by omega)]
    rw [this, List.map_map]
    rfl
  rw [e0, List.append_nil] at hp
  have e3 := sorted_same (by rw [e2]; exact hA.names) hs hp
  rw [e3]
  have hkl : ks.length = as'.length := by rw [e1, List.length_map, List.length_zip]; omega
  refine sameA_of (by rw [List.length_map]; exact hkl) (fun i h h' => ?_)
  have hi : i < ks.length := by simpa using h
  have hi2 : i < rs.length := by omega
  have e4 : ks[i] = (as'[i].1, rs[i]) := by
    simp only [e1, List.getElem_map, List.getElem_zip]
  rw [List.getElem_map, e4]
  unfold same1 bkBn
  have h5 := hex i h' hi2
  have hR1 : RightT (sgOf sg) (arAt sg) rs[i].tn := by rw [hrt i h' hi2]; exact right_of_can (canonT_can hOk (hA.rights _ (List.getElem_mem h')))
  have h6 := right_ex hR1 (hA.rights as'[i] (List.getElem_mem h'))
  have h7 : (cmpN rs[i].tn as'[i].2 == 0) = true := by rw [h6]; exact h5
  simp only [h7]
  simp
end Go.Proofs.YtgidgmgpgfonnaaGreat
