/- What Join, Less and Common make of rows, plainly. -/
import Derived.Test.YtlbmamkkbpjafabBLess
namespace Go.Proofs.Ytlbmamkkbpjafab
open Go.RowKit Go.Deep

theorem keepP_cons (f : It → Int) (y : It) (r : List It) : keepP f (y :: r) = (if 0 < f y then [(y.1, f y)] else []) ++ keepP f r := rfl
theorem fl_cons (v : Int) (y : It) (r : List It) : fl v (y :: r) = (if y.1.1 = v then [y] else []) ++ fl v r := by
  rw [show y :: r = [y] ++ r from rfl, fl_app, fl_one]
theorem fl_keep (f : It → Int) (v : Int) : ∀ l : List It, fl v (keepP f l) = keepP f (fl v l)
  | [] => rfl
  | y :: r => by
    rw [keepP_cons, fl_app, fl_cons, fl_keep f v r]
    by_cases hv : y.1.1 = v
    · rw [if_pos hv]
      show _ = keepP f (y :: fl v r)
      rw [keepP_cons]
      split
      · rw [fl_one, if_pos (show ((y.1, f y) : It).1.1 = v from hv)]
      · rfl
    · rw [if_neg hv, List.nil_append]
      split
      · rw [fl_one, if_neg (show ¬ ((y.1, f y) : It).1.1 = v from hv)]
        rfl
      · rfl
theorem fl_srt {l : List It} (hs : Srt l) (v : Int) : (fl v l = [] ∧ cntK v l = 0) ∨ ∃ y, fl v l = [y] ∧ y ∈ l ∧ y.1.1 = v ∧ cntK v l = y.2 := by
  have hp := (srt_pw _).1 hs
  have hf : (fl v l).Pairwise (fun a b => a.1.1 < b.1.1) := hp.filter _
  have hk : ∀ y ∈ fl v l, y ∈ l ∧ y.1.1 = v := fun y hm => ⟨(List.mem_filter.1 hm).1, by simpa using (List.mem_filter.1 hm).2⟩
  match hfl : fl v l with
  | [] =>
    refine .inl ⟨rfl, ?_⟩
    cases hth : thereB v l with
    | false => unfold cntK; rw [hth]; rfl
    | true =>
      obtain ⟨hp2, hkey⟩ := there_lt hth
      have hm : l[posK v l] ∈ fl v l := List.mem_filter.2 ⟨List.getElem_mem hp2, by simpa using hkey⟩
      rw [hfl] at hm
      cases hm
  | [x] =>
    have h1 := hk x (by rw [hfl]; simp)
    refine .inr ⟨x, rfl, h1.1, h1.2, ?_⟩
    obtain ⟨i, hi, he⟩ := List.getElem_of_mem h1.1
    have h2 := (cntK_nth hs i hi).2.2
    rw [he, h1.2] at h2
    exact h2
  | x :: y :: t =>
    rw [hfl] at hf hk
    have h1 := (List.pairwise_cons.1 hf).1 y (by simp)
    have h2 := (hk x (by simp)).2
    have h3 := (hk y (by simp)).2
    omega
theorem keepP_mem {f : It → Int} {l : List It} {z : It} (h : z ∈ keepP f l) : ∃ y ∈ l, 0 < f y ∧ z = (y.1, f y) := by
  obtain ⟨y, hy, hz⟩ := List.mem_flatMap.1 h
  split at hz
  · rename_i h0
    exact ⟨y, hy, h0, List.mem_singleton.1 hz⟩
  · cases hz
theorem keepP_keys (f : It → Int) : ∀ l : List It, ((keepP f l).map (·.1.1)).Sublist (l.map (·.1.1))
  | [] => List.Sublist.refl _
  | y :: r => by
    rw [keepP_cons, List.map_append, List.map_cons]
    split
    · exact (keepP_keys f r).cons_cons _
    · exact (keepP_keys f r).cons _
theorem keepP_srt (f : It → Int) {l : List It} (hs : Srt l) : Srt (keepP f l) := (srt_iff _).2 (List.Pairwise.sublist (keepP_keys f l) ((srt_iff _).1 hs))
theorem keepP_sum (f : It → Int) : ∀ l : List It, (∀ y ∈ l, f y ≤ y.2 ∧ 1 ≤ y.2) → sumN (keepP f l) ≤ sumN l
  | [], _ => Int.le_refl _
  | y :: r, h => by
    have h1 := keepP_sum f r (fun z hz => h z (List.mem_cons_of_mem _ hz))
    have h2 := h y List.mem_cons_self
    rw [keepP_cons, sumN_app, sumN_cons]
    split
    · show (f y + 0) + _ ≤ _
      omega
    · show (0 : Int) + _ ≤ _
      omega
theorem keepP_bg (f : It → Int) {l : List It} (hl : Bg l) (hf : ∀ y ∈ l, f y ≤ y.2) : Bg (keepP f l) :=
  ⟨keepP_srt f hl.srt, fun z hz => by
    obtain ⟨y, _, h0, rfl⟩ := keepP_mem hz
    show 1 ≤ f y
    omega, Int.le_trans (keepP_sum f l fun y hy => ⟨hf y hy, hl.pos y hy⟩) hl.sum⟩
theorem less_bg {l m : List It} (hl : Bg l) (hm : Bg m) : Bg (lessP l m) := keepP_bg _ hl fun y _ => by have := (cnt_bd hm.pos y.1.1).1; omega
theorem com_bg {l m : List It} (hl : Bg l) : Bg (comP l m) := keepP_bg _ hl fun y _ => by omega
theorem can_facts {l : List It} (hy : ∀ y ∈ l, 1 ≤ y.2) : Srt (canB l) ∧ (∀ z ∈ canB l, 1 ≤ z.2) ∧ sumN (canB l) = sumN l ∧ ∀ v, fl v (canB l) = comb (fl v l) := by
  have c := canB_all l.reverse (by rw [List.reverse_reverse]; exact hy)
  rwa [List.reverse_reverse] at c
theorem app_pos {l m : List It} (hl : Bg l) (hm : Bg m) : ∀ y ∈ l ++ m, 1 ≤ y.2 := fun y hy => (List.mem_append.1 hy).elim (hl.pos y) (hm.pos y)
/-- P6.1, its first half. -/
theorem back_one {l m : List It} (hl : Bg l) (hm : Bg m) : canB (lessP l m ++ comP l m) = l := by
  have c := can_facts (app_pos (less_bg hl hm) (com_bg (m := m) hl))
  refine srt_ext _ _ c.1 hl.srt fun v => ?_
  rw [c.2.2.2, fl_app, show fl v (lessP l m) = keepP _ (fl v l) from fl_keep _ v l, show fl v (comP l m) = keepP _ (fl v l) from fl_keep _ v l]
  rcases fl_srt hl.srt v with ⟨h, _⟩ | ⟨y, h, hy, hk, _⟩
  · rw [h]; rfl
  · rw [h]
    have h1 := hl.pos y hy
    have h2 := (cnt_bd hm.pos y.1.1).1
    obtain ⟨⟨yk, ym⟩, yn⟩ := y
    dsimp only at h1 h2
    show comb ((if 0 < yn - cntK yk m then [((yk, ym), yn - cntK yk m)] else []) ++ [] ++ ((if 0 < min yn (cntK yk m) then [((yk, ym), min yn (cntK yk m))] else []) ++ [])) = [((yk, ym), yn)]
    rw [List.append_nil, List.append_nil]
    generalize cntK yk m = cn at h2
    by_cases ha : 0 < yn - cn
    · rw [if_pos ha]
      by_cases hb : 0 < min yn cn
      · rw [if_pos hb]
        show [((yk, ym), yn - cn + (min yn cn + 0))] = _
        rw [show yn - cn + (min yn cn + 0) = yn by omega]
      · rw [if_neg hb]
        show [((yk, ym), yn - cn + 0)] = _
        rw [show yn - cn + 0 = yn by omega]
    · rw [if_neg ha, if_pos (by omega)]
      show [((yk, ym), min yn cn + 0)] = _
      rw [show min yn cn + 0 = yn by omega]
/-- P6.1, its second half. -/
theorem back_two {l m : List It} (hl : Bg l) (hm : Bg m) : lessP (canB (l ++ m)) m = l := by
  have c := can_facts (app_pos hl hm)
  refine srt_ext _ _ (keepP_srt _ c.1) hl.srt fun v => ?_
  rw [show fl v (lessP (canB (l ++ m)) m) = keepP _ (fl v (canB (l ++ m))) from fl_keep _ v _, c.2.2.2, fl_app]
  rcases fl_srt hl.srt v with ⟨h, _⟩ | ⟨y, h, hy, hk, _⟩
  · rw [h, List.nil_append]
    rcases fl_srt hm.srt v with ⟨h2, _⟩ | ⟨z, h2, hz, hkz, hc⟩
    · rw [h2]; rfl
    · rw [h2]
      show (if 0 < z.2 + 0 - cntK z.1.1 m then _ else []) ++ [] = []
      rw [hkz, hc, if_neg (by omega)]
      rfl
  · rw [h]
    have h1 := hl.pos y hy
    have hcm : sumN (fl v m) = cntK v m := by
      rcases fl_srt hm.srt v with ⟨h2, hc⟩ | ⟨z, h2, hz, hkz, hc⟩
      · rw [h2, hc]; rfl
      · rw [h2, hc]; show z.2 + 0 = _; omega
    show (if 0 < y.2 + sumN (fl v m) - cntK y.1.1 m then [(y.1, y.2 + sumN (fl v m) - cntK y.1.1 m)] else []) ++ [] = [y]
    rw [hcm, hk, if_pos (by omega), show y.2 + cntK v m - cntK v m = y.2 by omega]
    rfl
theorem within_self {l : List It} (hl : Bg l) : withinP l l = true := within_all.2 fun y hy => by
  obtain ⟨i, hi, rfl⟩ := List.getElem_of_mem hy
  rw [(cntK_nth hl.srt i hi).2.2]
  exact Int.le_refl _
theorem mk_bg (l : List Th) (h : l.length ≤ 1048576) : Bg (mkP l) ∧ (mkP l).length ≤ 1048576 := by
  obtain ⟨h1, h2, h3⟩ := mkP_all l
  have h4 := len_sum _ h2
  exact ⟨⟨h1, h2, by omega⟩, by omega⟩
end Go.Proofs.Ytlbmamkkbpjafab
