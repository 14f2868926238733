/- What gather makes of a list of items, plainly. -/
import Derived.Test.YtlbmamkkbpjafabBMade
import Derived.Test.YtlbmamkkbpjafabStIns
namespace Go.Proofs.Ytlbmamkkbpjafab
open Go.RowKit Go.Deep

/-- One item more in a bag. -/
def addI (m : List It) (y : It) : List It := (addP y.1 y.2 m).2
/-- All items put into one bag. -/
def canB (l : List It) : List It := l.foldl addI []
/-- gather's step. -/
def stepG (acc : List It) (x : It) : List It := match acc.getLast? with
  | some y => if y.1.1 = x.1.1 then acc.dropLast ++ [(y.1, y.2 + x.2)] else acc ++ [x]
  | none => acc ++ [x]
def gathP (l : List It) : List It := l.foldl stepG []
/-- The items of one key. -/
def fl (v : Int) (l : List It) : List It := l.filter fun y => decide (y.1.1 = v)
/-- Items of one key, as one. -/
def comb : List It → List It
  | [] => []
  | x :: r => [(x.1, x.2 + sumN r)]
theorem fl_app (v : Int) (a b : List It) : fl v (a ++ b) = fl v a ++ fl v b := List.filter_append ..
theorem fl_one (v : Int) (y : It) : fl v [y] = if y.1.1 = v then [y] else [] := by
  unfold fl
  by_cases h : y.1.1 = v <;> simp [h]
theorem fl_none {v : Int} {l : List It} (h : ∀ y ∈ l, y.1.1 ≠ v) : fl v l = [] := List.filter_eq_nil_iff.2 fun y hy => by simpa using h y hy
theorem comb_snoc (a : List It) (y : It) : comb (a ++ [y]) = match comb a with | [] => [y] | z :: _ => [(z.1, z.2 + y.2)] := by
  match a with
  | [] => show [(y.1, y.2 + sumN [])] = [y]; show [(y.1, y.2 + 0)] = [y]; rw [Int.add_zero]
  | x :: r =>
    show [(x.1, x.2 + sumN (r ++ [y]))] = [(x.1, x.2 + sumN r + y.2)]
    rw [sumN_app, show sumN [y] = y.2 from by show y.2 + 0 = _; omega]
    congr 2
    omega
theorem srt_pw (l : List It) : Srt l ↔ l.Pairwise (fun a b => a.1.1 < b.1.1) := by
  rw [srt_iff, List.pairwise_map]
/-- Rows in order that have the same items of each key are the same. -/
theorem srt_ext : ∀ (a b : List It), Srt a → Srt b → (∀ v, fl v a = fl v b) → a = b
  | [], [], _, _, _ => rfl
  | [], y :: r, _, _, h => by
    have := h y.1.1
    simp [fl] at this
  | x :: r, [], _, _, h => by
    have := h x.1.1
    simp [fl] at this
  | x :: r, y :: t, ha, hb, h => by
    have pa := List.pairwise_cons.1 ((srt_pw _).1 ha)
    have pb := List.pairwise_cons.1 ((srt_pw _).1 hb)
    have e1 : ∀ v, fl v r = if x.1.1 = v then [] else fl v r := fun v => by
      split
      · rename_i hv
        exact fl_none fun z hz => by have := pa.1 z hz; omega
      · rfl
    have e2 : ∀ v, fl v t = if y.1.1 = v then [] else fl v t := fun v => by
      split
      · rename_i hv
        exact fl_none fun z hz => by have := pb.1 z hz; omega
      · rfl
    have hx : x ∈ y :: t := by
      have h1 := h x.1.1
      have h2 : x ∈ fl x.1.1 (x :: r) := List.mem_filter.2 ⟨List.mem_cons_self, by simp⟩
      rw [h1] at h2
      exact (List.mem_filter.1 h2).1
    have hy : y ∈ x :: r := by
      have h1 := h y.1.1
      have h2 : y ∈ fl y.1.1 (y :: t) := List.mem_filter.2 ⟨List.mem_cons_self, by simp⟩
      rw [← h1] at h2
      exact (List.mem_filter.1 h2).1
    have hxy : x = y := by
      rcases List.mem_cons.1 hx with hx | hx
      · exact hx
      · rcases List.mem_cons.1 hy with hy | hy
        · exact hy.symm
        · have := pb.1 x hx
          have := pa.1 y hy
          omega
    subst hxy
    congr 1
    refine srt_ext r t ((srt_pw _).2 pa.2) ((srt_pw _).2 pb.2) fun v => ?_
    have h1 := h v
    rw [show x :: r = [x] ++ r from rfl, show x :: t = [x] ++ t from rfl, fl_app, fl_app] at h1
    exact List.append_cancel_left h1
theorem add_fl (m : List It) (y : It) (hs : Srt m) (hp : ∀ z ∈ m, 1 ≤ z.2) (hy : 1 ≤ y.2) (v : Int) : fl v (addI m y) = if y.1.1 = v then (match fl v m with | [] => [y] | z :: _ => [(z.1, z.2 + y.2)]) else fl v m := by
  have hc := cnt_bd hp y.1.1
  have hn0 : y.2 ≠ 0 := by omega
  cases hth : thereB y.1.1 m with
  | true =>
    obtain ⟨hpos, hkey⟩ := there_lt hth
    have hcn := cnt_there hth hpos
    have ha : addI m y = m.take (posK y.1.1 m) ++ ((m[posK y.1.1 m]).1, (m[posK y.1.1 m]).2 + y.2) :: m.drop (posK y.1.1 m + 1) := by
      unfold addI addP
      rw [if_neg hn0, if_neg (by omega), if_neg (by omega), if_pos hth, List.getElem?_eq_getElem hpos]
      dsimp only
      rw [List.set_eq_take_append_cons_drop, if_pos hpos, hcn]
    have hm : m = m.take (posK y.1.1 m) ++ (m[posK y.1.1 m]) :: m.drop (posK y.1.1 m + 1) := by rw [← List.drop_eq_getElem_cons hpos, List.take_append_drop]
    have hlow := take_lt y.1.1 m
    generalize (m[posK y.1.1 m]) = z at ha hm hkey
    generalize m.take (posK y.1.1 m) = A at ha hm hlow
    generalize m.drop (posK y.1.1 m + 1) = C at ha hm
    rw [ha]
    have hs2 := (srt_pw _).1 hs
    rw [hm] at hs2 ⊢
    obtain ⟨_, hc2, _⟩ := List.pairwise_append.1 hs2
    have hC := (List.pairwise_cons.1 hc2).1
    rw [show A ++ (z.1, z.2 + y.2) :: C = A ++ [(z.1, z.2 + y.2)] ++ C by simp, show A ++ z :: C = A ++ [z] ++ C by simp]
    simp only [fl_app, fl_one]
    by_cases hv : y.1.1 = v
    · rw [if_pos hv, if_pos (show z.1.1 = v by omega), fl_none (l := A) (fun q hq => by have := hlow q hq; omega), fl_none (l := C) (fun q hq => by have := hC q hq; omega)]
      rw [if_pos (show z.1.1 = v by omega)]
      rfl
    · rw [if_neg hv]
      simp only [show ¬ z.1.1 = v by omega, if_false]
  | false =>
    have hc0 : cntK y.1.1 m = 0 := by unfold cntK; rw [hth]; rfl
    have ha : addI m y = m.take (posK y.1.1 m) ++ y :: m.drop (posK y.1.1 m) := by
      unfold addI addP
      rw [if_neg hn0, if_neg (by omega), if_neg (by omega), if_neg (by rw [hth]; decide), hc0, Int.zero_add]
    have hlow := take_lt y.1.1 m
    have hhi := drop_gt y.1.1 m hs hth
    have hm : m = m.take (posK y.1.1 m) ++ m.drop (posK y.1.1 m) := (List.take_append_drop _ _).symm
    generalize m.take (posK y.1.1 m) = A at ha hm hlow
    generalize m.drop (posK y.1.1 m) = C at ha hm hhi
    rw [ha, hm, show A ++ y :: C = A ++ [y] ++ C by simp]
    simp only [fl_app, fl_one]
    by_cases hv : y.1.1 = v
    · rw [if_pos hv, if_pos hv, fl_none (l := A) (fun q hq => by have := hlow q hq; omega), fl_none (l := C) (fun q hq => by have := hhi q hq; omega)]
      rfl
    · rw [if_neg hv, if_neg hv, List.append_nil]
theorem canB_snoc (l : List It) (y : It) : canB (l ++ [y]) = addI (canB l) y := by unfold canB; rw [List.foldl_append]; rfl
theorem gathP_snoc (l : List It) (y : It) : gathP (l ++ [y]) = stepG (gathP l) y := by unfold gathP; rw [List.foldl_append]; rfl
theorem canB_all (r : List It) (hy : ∀ y ∈ r.reverse, 1 ≤ y.2) : Srt (canB r.reverse) ∧ (∀ z ∈ canB r.reverse, 1 ≤ z.2) ∧ sumN (canB r.reverse) = sumN r.reverse ∧ ∀ v, fl v (canB r.reverse) = comb (fl v r.reverse) := by
  induction r with
  | nil => exact ⟨fun i j hi => absurd hi (Nat.not_lt_zero _), fun z hz => absurd hz (by simp [canB]), rfl, fun v => rfl⟩
  | cons y r ih =>
    rw [List.reverse_cons] at hy ⊢
    obtain ⟨h1, h2, h3, h4⟩ := ih (fun z hz => hy z (List.mem_append_left _ hz))
    have hy1 := hy y (by simp)
    rw [canB_snoc]
    refine ⟨addP_srt _ _ _ h1, addP_pos _ _ _ h2, ?_, fun v => ?_⟩
    · have hc := cnt_bd h2 y.1.1
      have hok : (addP y.1 y.2 (canB r.reverse)).1 = true := by
        unfold addP
        rw [if_neg (by omega), if_neg (by omega), if_neg (by omega)]
        split <;> rfl
      show sumN (addP y.1 y.2 (canB r.reverse)).2 = _
      rw [addP_sum, if_pos hok, h3, sumN_app]
      show _ = _ + (y.2 + 0)
      omega
    · rw [add_fl _ _ h1 h2 hy1, h4, fl_app, fl_one]
      split
      · rw [comb_snoc]
      · rw [List.append_nil]
theorem stepG_ne {acc : List It} {z x : It} (h : z.1.1 ≠ x.1.1) : stepG (acc ++ [z]) x = acc ++ [z] ++ [x] := by
  unfold stepG
  rw [List.getLast?_append, show ([z] : List It).getLast? = some z from rfl]
  show (if z.1.1 = x.1.1 then _ else _) = _
  rw [if_neg h]
theorem stepG_eq {acc : List It} {z x : It} (h : z.1.1 = x.1.1) : stepG (acc ++ [z]) x = acc ++ [(z.1, z.2 + x.2)] := by
  unfold stepG
  rw [List.getLast?_append, show ([z] : List It).getLast? = some z from rfl]
  show (if z.1.1 = x.1.1 then (acc ++ [z]).dropLast ++ [(z.1, z.2 + x.2)] else _) = _
  rw [if_pos h, List.dropLast_concat]
theorem gathP_all (r : List It) (hs : Sd ltI r.reverse) (hy : ∀ y ∈ r.reverse, 1 ≤ y.2) : Srt (gathP r.reverse) ∧ (∀ z ∈ gathP r.reverse, 1 ≤ z.2) ∧ sumN (gathP r.reverse) = sumN r.reverse ∧ (∀ v, fl v (gathP r.reverse) = comb (fl v r.reverse)) ∧ (∀ z ∈ gathP r.reverse, ∃ u ∈ r.reverse, u.1.1 = z.1.1) := by
  induction r with
  | nil => exact ⟨fun i j hi => absurd hi (Nat.not_lt_zero _), fun z hz => absurd hz (by simp [gathP]), rfl, fun v => rfl, fun z hz => absurd hz (by simp [gathP])⟩
  | cons x r ih =>
    rw [List.reverse_cons] at hs hy ⊢
    obtain ⟨hs1, _, hs3⟩ := sd_parts hs
    obtain ⟨h1, h2, h3, h4, h5⟩ := ih hs1 (fun z hz => hy z (List.mem_append_left _ hz))
    have hx1 := hy x (by simp)
    have hle : ∀ z ∈ gathP r.reverse, z.1.1 ≤ x.1.1 := fun z hz => by
      obtain ⟨u, hu, he⟩ := h5 z hz
      have := hs3 u hu x (by simp)
      unfold Le ltI at this
      simp at this
      omega
    rw [gathP_snoc]
    by_cases hne : gathP r.reverse = []
    · rw [hne] at h4 h3 ⊢
      have e : stepG [] x = [x] := rfl
      rw [e]
      refine ⟨(srt_pw _).2 (List.pairwise_singleton _ _), fun z hz => by rw [List.mem_singleton.1 hz]; exact hx1, ?_, fun v => ?_, fun z hz => ⟨x, by simp, by rw [List.mem_singleton.1 hz]⟩⟩
      · rw [sumN_app, ← h3]
        show x.2 + 0 = 0 + (x.2 + 0)
        omega
      · rw [fl_app, fl_one]
        have h6 : comb (fl v r.reverse) = [] := (h4 v).symm
        have h7 : fl v r.reverse = [] := by
          cases hf : fl v r.reverse with
          | nil => rfl
          | cons a t => rw [hf] at h6; cases h6
        rw [h7, List.nil_append]
        split
        · show [x] = [(x.1, x.2 + 0)]
          rw [Int.add_zero]
        · rfl
    · obtain ⟨A, z, hA⟩ : ∃ A z, gathP r.reverse = A ++ [z] := ⟨_, _, (List.dropLast_concat_getLast hne).symm⟩
      rw [hA] at h1 h2 h3 h4 h5 hle ⊢
      have hp := (srt_pw _).1 h1
      obtain ⟨hpA, _, hpz⟩ := List.pairwise_append.1 hp
      by_cases hk : z.1.1 = x.1.1
      · rw [stepG_eq hk]
        refine ⟨(srt_pw _).2 (List.pairwise_append.2 ⟨hpA, List.pairwise_singleton _ _, fun a ha b hb => by rw [List.mem_singleton.1 hb]; exact hpz a ha z (by simp)⟩), fun q hq => ?_, ?_, fun v => ?_, fun q hq => ?_⟩
        · rcases List.mem_append.1 hq with hq | hq
          · exact h2 q (List.mem_append_left _ hq)
          · rw [List.mem_singleton.1 hq]
            have := h2 z (by simp)
            show 1 ≤ z.2 + x.2
            omega
        · rw [sumN_app] at h3 ⊢
          rw [sumN_app, ← h3]
          show sumN A + (z.2 + x.2 + 0) = sumN A + (z.2 + 0) + (x.2 + 0)
          omega
        · have h6 := h4 v
          rw [fl_app, fl_one] at h6 ⊢
          rw [fl_app, fl_one]
          by_cases hv : x.1.1 = v
          · rw [if_pos (show z.1.1 = v by omega)] at h6
            rw [if_pos hv, if_pos (show z.1.1 = v by omega), comb_snoc, ← h6, fl_none (l := A) (fun q hq => by have := hpz q hq z (by simp); omega)]
            rfl
          · rw [if_neg (show ¬ z.1.1 = v by omega)] at h6
            rw [if_neg hv, if_neg (show ¬ z.1.1 = v by omega), List.append_nil (fl v r.reverse)]
            exact h6
        · rcases List.mem_append.1 hq with hq | hq
          · obtain ⟨u, hu, he⟩ := h5 q (List.mem_append_left _ hq)
            exact ⟨u, List.mem_append_left _ hu, he⟩
          · exact ⟨x, by simp, by rw [List.mem_singleton.1 hq]; exact hk.symm⟩
      · rw [stepG_ne hk]
        have hlt : z.1.1 < x.1.1 := by have := hle z (by simp); omega
        have hall : ∀ q ∈ A ++ [z], q.1.1 < x.1.1 := fun q hq => by
          rcases List.mem_append.1 hq with hq | hq
          · have := hpz q hq z (by simp); omega
          · rw [List.mem_singleton.1 hq]; exact hlt
        refine ⟨(srt_pw _).2 (List.pairwise_append.2 ⟨hp, List.pairwise_singleton _ _, fun a ha b hb => by rw [List.mem_singleton.1 hb]; exact hall a ha⟩), fun q hq => ?_, ?_, fun v => ?_, fun q hq => ?_⟩
        · rcases List.mem_append.1 hq with hq | hq
          · exact h2 q hq
          · rw [List.mem_singleton.1 hq]; exact hx1
        · rw [sumN_app _ [x], sumN_app _ [x], h3]
        · rw [fl_app _ _ [x], fl_app _ _ [x], h4, fl_one]
          by_cases hv : x.1.1 = v
          · have h6 := h4 v
            rw [fl_none (l := A ++ [z]) (fun q hq => by have := hall q hq; omega)] at h6
            have h7 : fl v r.reverse = [] := by
              cases hf : fl v r.reverse with
              | nil => rfl
              | cons a t => rw [hf] at h6; cases h6
            rw [if_pos hv, h7]
            show [x] = [(x.1, x.2 + 0)]
            rw [Int.add_zero]
          · rw [if_neg hv, List.append_nil, List.append_nil]
        · rcases List.mem_append.1 hq with hq | hq
          · obtain ⟨u, hu, he⟩ := h5 q hq
            exact ⟨u, List.mem_append_left _ hu, he⟩
          · exact ⟨x, by simp, by rw [List.mem_singleton.1 hq]⟩
theorem stb_fl {l R : List It} (h : Stb ltI l R) (v : Int) : fl v l = fl v R := by
  have h1 := h.2 ((v, 0), 0)
  have e : ∀ y : It, eqv ltI ((v, 0), 0) y = decide (y.1.1 = v) := fun y => by
    unfold eqv ltI
    by_cases h : y.1.1 = v
    · simp [h]
    · rw [decide_eq_false h]
      by_cases h2 : v < y.1.1
      · simp [h2]
      · have h3 : y.1.1 < v := by omega
        simp [h3]
  unfold fl
  rw [← funext e]
  exact h1
theorem perm_sum {l R : List It} (h : l.Perm R) : sumN l = sumN R := by
  induction h with
  | nil => rfl
  | cons x _ ih => rw [sumN_cons, sumN_cons, ih]
  | swap x y l => rw [sumN_cons, sumN_cons, sumN_cons, sumN_cons]; omega
  | trans _ _ ih1 ih2 => rw [ih1, ih2]
/-- What gather makes of a list in order is what comes of putting the items in one by one, as they came. -/
theorem gath_can {l R : List It} (hs : Sd ltI R) (h : Stb ltI l R) (hy : ∀ y ∈ l, 1 ≤ y.2) : gathP R = canB l := by
  have g := gathP_all R.reverse (by rw [List.reverse_reverse]; exact hs) (by rw [List.reverse_reverse]; exact fun y hm => hy y (h.mem.2 hm))
  have c := canB_all l.reverse (by rw [List.reverse_reverse]; exact hy)
  rw [List.reverse_reverse] at g c
  exact srt_ext _ _ g.1 c.1 fun v => by rw [g.2.2.2.1, c.2.2.2, stb_fl h]
theorem canB_srt {l : List It} (hs : Srt l) (hy : ∀ y ∈ l, 1 ≤ y.2) : canB l = l := by
  have c := canB_all l.reverse (by rw [List.reverse_reverse]; exact hy)
  rw [List.reverse_reverse] at c
  refine srt_ext _ _ c.1 hs fun v => ?_
  rw [c.2.2.2]
  have hp := (srt_pw _).1 hs
  have hf : (fl v l).Pairwise (fun a b => a.1.1 < b.1.1) := hp.filter _
  have hk : ∀ y ∈ fl v l, y.1.1 = v := fun y hm => by simpa using (List.mem_filter.1 hm).2
  match hfl : fl v l with
  | [] => rfl
  | [x] => show [(x.1, x.2 + 0)] = [x]; rw [Int.add_zero]
  | x :: y :: t =>
    rw [hfl] at hf hk
    have h1 := (List.pairwise_cons.1 hf).1 y (by simp)
    have h2 := hk x (by simp)
    have h3 := hk y (by simp)
    omega
theorem canB_app {a b : List It} : canB (a ++ b) = b.foldl addI (canB a) := by unfold canB; rw [List.foldl_append]
theorem canB_ones (l : List Th) : canB (l.map fun x => (x, 1)) = mkP l := by
  unfold canB mkP
  rw [List.foldl_map]
  rfl
end Go.Proofs.Ytlbmamkkbpjafab
