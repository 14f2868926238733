/- Plain: bags of things that come in another order; how many parts there are. -/
import Derived.Test.YtlbmamkkbpjafabBFits
namespace Go.Proofs.Ytlbmamkkbpjafab

theorem sum_comb (l : List It) : sumN (comb l) = sumN l := by
  cases l with
  | nil => rfl
  | cons y r => simp [comb, sumN]
theorem cnt_fl {l : List It} (hs : Srt l) (v : Int) : cntK v l = sumN (fl v l) := by
  rcases fl_srt hs v with ⟨h1, h2⟩ | ⟨y, h1, _, _, h2⟩
  · rw [h1, h2]; rfl
  · rw [h1, h2]; simp [sumN]
theorem ones_pos (l : List Th) : ∀ y ∈ l.map (fun x => ((x, 1) : It)), 1 ≤ y.2 := fun y hy => by
  obtain ⟨x, _, rfl⟩ := List.mem_map.1 hy
  exact Int.le_refl _
theorem cnt_mk (l : List Th) (v : Int) : cntK v (mkP l) = sumN (fl v (l.map fun x => ((x, 1) : It))) := by
  rw [← canB_ones]
  obtain ⟨h1, _, _, h4⟩ := can_facts (ones_pos l)
  rw [cnt_fl h1, h4, sum_comb]
theorem cnt_turn (l : List Th) (v : Int) : cntK v (mkP l.reverse) = cntK v (mkP l) := by
  rw [cnt_mk, cnt_mk, List.map_reverse]
  refine perm_sum ?_
  exact (List.reverse_perm _).filter _
theorem cnt_mem {l : List It} (hs : Srt l) {z : It} (hz : z ∈ l) : cntK z.1.1 l = z.2 := by
  obtain ⟨i, hi, rfl⟩ := List.getElem_of_mem hz
  exact (cntK_nth hs i hi).2.2
theorem turn_all (l : List Th) : (∀ z ∈ mkP l, cntK z.1.1 (mkP l.reverse) = z.2) ∧ withinP (mkP l) (mkP l.reverse) = true ∧ withinP (mkP l.reverse) (mkP l) = true := by
  have h0 : ∀ z ∈ mkP l, cntK z.1.1 (mkP l.reverse) = z.2 := fun z hz => by
    rw [cnt_turn]
    exact cnt_mem (mkP_all l).1 hz
  refine ⟨h0, within_all.2 fun y hy => by rw [h0 y hy]; exact Int.le_refl _, within_all.2 fun y hy => ?_⟩
  rw [← cnt_turn, cnt_mem (mkP_all l.reverse).1 hy]
  exact Int.le_refl _
/-- How many parts there are. -/
def prN : List It → Int
  | [] => 1
  | y :: r => (y.2 + 1) * prN r
/-- The place of counts among all of them. -/
def rkN : List It → List Int → Int
  | _ :: r, c :: cs => c * prN r + rkN r cs
  | _, _ => 0
theorem prN_app : ∀ a b : List It, prN (a ++ b) = prN a * prN b
  | [], b => by show prN b = 1 * prN b; rw [Int.one_mul]
  | y :: r, b => by
    show (y.2 + 1) * prN (r ++ b) = (y.2 + 1) * prN r * prN b
    rw [prN_app r b, Int.mul_assoc]
theorem prN_pos : ∀ l : List It, (∀ y ∈ l, 1 ≤ y.2) → 1 ≤ prN l
  | [], _ => Int.le_refl _
  | y :: r, h => by
    have h1 := h y (List.mem_cons_self ..)
    have h2 := prN_pos r fun z hz => h z (List.mem_cons_of_mem _ hz)
    show 1 ≤ (y.2 + 1) * prN r
    have := Int.mul_le_mul (show (1 : Int) ≤ y.2 + 1 by omega) h2 (by decide) (by omega)
    omega
theorem two_pow : ∀ n : Nat, ((n : Int) + 1) ≤ 2 ^ n
  | 0 => by decide
  | n + 1 => by
    have := two_pow n
    rw [Int.pow_succ]
    omega
theorem prN_le : ∀ l : List It, (∀ y ∈ l, 1 ≤ y.2) → prN l ≤ 2 ^ (sumN l).toNat
  | [], _ => by decide
  | y :: r, h => by
    have h1 := h y (List.mem_cons_self ..)
    have h2 := prN_le r fun z hz => h z (List.mem_cons_of_mem _ hz)
    have h3 := prN_pos r fun z hz => h z (List.mem_cons_of_mem _ hz)
    have h4 := sumN_nn r fun z hz => h z (List.mem_cons_of_mem _ hz)
    have h5 : y.2 + 1 ≤ 2 ^ y.2.toNat := by
      have := two_pow y.2.toNat
      omega
    show (y.2 + 1) * prN r ≤ 2 ^ (sumN (y :: r)).toNat
    rw [sumN_cons, show (y.2 + sumN r).toNat = y.2.toNat + (sumN r).toNat by omega, Int.pow_add]
    exact Int.mul_le_mul h5 h2 (by omega) (by omega)
theorem prN_128 {l : List It} (h : ∀ y ∈ l, 1 ≤ y.2) (hs : sumN l ≤ 7) (k : Nat) : 1 ≤ prN (l.take k) ∧ prN (l.take k) ≤ 128 := by
  have hp : ∀ y ∈ l.take k, 1 ≤ y.2 := fun y hy => h y (List.mem_of_mem_take hy)
  have h1 := prN_le (l.take k) hp
  have h2 := sumN_bd l h k
  refine ⟨prN_pos _ hp, Int.le_trans h1 ?_⟩
  obtain ⟨n, hn⟩ : ∃ n, (sumN (l.take k)).toNat = n := ⟨_, rfl⟩
  have hn7 : n ≤ 7 := by omega
  rw [hn]
  match n, hn7 with
  | 0, _ | 1, _ | 2, _ | 3, _ | 4, _ | 5, _ | 6, _ | 7, _ => decide
  | _ + 8, h => omega
theorem rk_zero : ∀ (l : List It) (n : Nat), rkN l (List.replicate n 0) = 0
  | [], n => by cases n <;> rfl
  | y :: r, 0 => rfl
  | y :: r, n + 1 => by
    show 0 * prN r + rkN r (List.replicate n 0) = 0
    rw [rk_zero r n, Int.zero_mul, Int.zero_add]
theorem riseAt_cons (y : It) (l : List It) (c : Int) (cs : List Int) : ∀ k, riseAt (y :: l) (c :: cs) (k + 1) = if (riseAt l cs k).2 = true then (c :: (riseAt l cs k).1, true) else if c < y.2 then ((c + 1) :: List.replicate cs.length 0, true) else (0 :: List.replicate cs.length 0, false)
  | 0 => by
    simp only [riseAt, List.getElem?_cons_zero]
    simp [List.replicate_succ]
  | k + 1 => by
    rw [riseAt]
    simp only [List.getElem?_cons_succ]
    rw [riseAt_cons y l c cs k]
    conv => rhs; rw [riseAt]
    cases hl : l[k]? with
    | none => rfl
    | some z =>
      cases hc : cs[k]? with
      | none => rfl
      | some x =>
        simp only
        split
        · simp
        · rfl
theorem fits_tail {y : It} {l : List It} {c : Int} {cs : List Int} (h : Fits (y :: l) (c :: cs)) : Fits l cs ∧ 0 ≤ c ∧ c ≤ y.2 :=
  ⟨⟨by have := h.len; simpa using this, fun i z x hz hx => h.at_ (i + 1) z x (by simpa using hz) (by simpa using hx)⟩, h.at_ 0 y c rfl rfl⟩
theorem rk_rise : ∀ (l : List It) (cs : List Int), Fits l cs → ((riseP l cs).2 = true → rkN l (riseP l cs).1 = rkN l cs + 1) ∧ ((riseP l cs).2 = false → rkN l cs + 1 = prN l)
  | [], [], _ => ⟨fun h => (by cases h), fun _ => rfl⟩
  | [], c :: cs, h => by have := h.len; simp at this
  | y :: l, [], h => by have := h.len; simp at this
  | y :: l, c :: cs, h => by
    obtain ⟨hf, h0, h1⟩ := fits_tail h
    obtain ⟨i1, i2⟩ := rk_rise l cs hf
    have e : riseP (y :: l) (c :: cs) = (if (riseP l cs).2 = true then (c :: (riseP l cs).1, true) else if c < y.2 then ((c + 1) :: List.replicate cs.length 0, true) else (0 :: List.replicate cs.length 0, false)) := riseAt_cons y l c cs cs.length
    rw [e]
    show (_ → _ = c * prN l + rkN l cs + 1) ∧ (_ → c * prN l + rkN l cs + 1 = (y.2 + 1) * prN l)
    cases hr : (riseP l cs).2 with
    | true =>
      rw [if_pos rfl]
      refine ⟨fun _ => ?_, fun h => by cases h⟩
      show c * prN l + rkN l (riseP l cs).1 = _
      rw [i1 hr, Int.add_assoc]
    | false =>
      rw [if_neg (by simp)]
      have h2 := i2 hr
      by_cases hc : c < y.2
      · rw [if_pos hc]
        refine ⟨fun _ => ?_, fun h => by cases h⟩
        show (c + 1) * prN l + rkN l (List.replicate cs.length 0) = _
        rw [rk_zero, Int.add_mul, Int.one_mul]
        omega
      · rw [if_neg hc]
        refine ⟨fun h => (by cases h), fun _ => ?_⟩
        rw [show y.2 = c by omega, Int.add_mul, Int.one_mul]
        omega
theorem rk_lt : ∀ (l : List It) (cs : List Int), (∀ y ∈ l, 1 ≤ y.2) → Fits l cs → 0 ≤ rkN l cs ∧ rkN l cs < prN l
  | [], [], _, _ => ⟨Int.le_refl _, by decide⟩
  | [], c :: cs, _, h => by have := h.len; simp at this
  | y :: l, [], _, h => by have := h.len; simp at this
  | y :: l, c :: cs, hp, h => by
    obtain ⟨hf, h0, h1⟩ := fits_tail h
    obtain ⟨j1, j2⟩ := rk_lt l cs (fun z hz => hp z (List.mem_cons_of_mem _ hz)) hf
    have h3 := prN_pos l fun z hz => hp z (List.mem_cons_of_mem _ hz)
    show 0 ≤ c * prN l + rkN l cs ∧ c * prN l + rkN l cs < (y.2 + 1) * prN l
    have a1 := Int.mul_nonneg h0 (show 0 ≤ prN l by omega)
    have a2 := Int.mul_le_mul_of_nonneg_right (show c + 1 ≤ y.2 + 1 by omega) (show 0 ≤ prN l by omega)
    rw [Int.add_mul, Int.one_mul] at a2
    exact ⟨by omega, by omega⟩
end Go.Proofs.Ytlbmamkkbpjafab
