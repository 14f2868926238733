/- Why a word may not be: the program's reason is the document's. -/
import Derived.Test.YtkcbhbkldcebiaaWKind
import Derived.Test.YtkcbhbkldcebiaaRVar
namespace Go.Proofs.Ytkcbhbkldcebiaa

theorem kindP_one {s : ByteArray} {b : Nat} (h : kindP s b = 1) : lowZ (bt s b) = true := by
  unfold kindP at h
  repeat' split at h
  all_goals first | assumption | omega
theorem kindP_two {s : ByteArray} {b : Nat} (h : kindP s b = 2) : upZ (bt s b) = true ∨ bt s b = 95 := by
  unfold kindP at h
  repeat' split at h
  all_goals first | omega | (rename_i h'; simpa using h')
theorem kindP_of_low {s : ByteArray} {b : Nat} (h : lowZ (bt s b) = true) : kindP s b = 1 := by simp [kindP, h]
theorem low_not_up {c : Int} (h : lowZ c = true) : upZ c = false := by simp [lowZ] at h; simp [upZ]; omega
theorem kindP_of_up {s : ByteArray} {b : Nat} (h : upZ (bt s b) = true) : kindP s b = 2 := by
  have : lowZ (bt s b) = false := by simp [upZ] at h; simp [lowZ]; omega
  simp [kindP, h, this]
theorem kindP_of_under {s : ByteArray} {b : Nat} (h : bt s b = 95) : kindP s b = 2 := by
  simp [kindP, h, lowZ]
theorem kindP_range (s : ByteArray) (b : Nat) : 0 ≤ kindP s b ∧ kindP s b ≤ 7 := by
  unfold kindP
  repeat' split
  all_goals omega
theorem endP_name {s : ByteArray} {b : Nat} (h : kindP s b = 1 ∨ kindP s b = 2) : endP s b = runTo (okTail (bt s b)) s (b + 1) := by
  unfold endP lenK
  rcases h with h | h <;> rw [h] <;> rfl
theorem endP_sign {s : ByteArray} {b : Nat} (h1 : kindP s b ≠ 1) (h2 : kindP s b ≠ 2) : endP s b ≤ b + 2 := by
  unfold endP lenK
  have e1 : (kindP s b == 1) = false := by simpa using h1
  have e2 : (kindP s b == 2) = false := by simpa using h2
  rw [e1, e2]
  simp only [Bool.or_self, Bool.false_eq_true, if_false]
  split <;> omega

/-- The bytes of a word's beginning. -/
theorem bt_begin {s : ByteArray} {b e n j : Nat} (he : e ≤ s.size) (hn : n ≤ e - b) (hj : j < n) : bt ((s.extract b e).extract 0 n) j = bt s (b + j) := by
  rw [bt_ext _ 0 n j (by simp; omega), if_pos (by omega), bt_ext s b e (0 + j) he, if_pos (by omega), Nat.zero_add]
theorem size_begin {s : ByteArray} {b e n : Nat} (he : e ≤ s.size) (hn : n ≤ e - b) : ((s.extract b e).extract 0 n).size = n := by
  simp; omega

theorem nameB_of {m : ByteArray} (h1 : 1 ≤ m.size) (h2 : m.size ≤ 12) (h : ∀ j, j < m.size → okName j (bt m j) = true) : nameB m = true := by
  unfold nameB fitsB
  rw [(allB_iff _ _ _).2 h]
  simp [h1, h2]

theorem fault_is {s : ByteArray} {b : Nat} (hb : b < s.size) : faultB (kindP s b) (s.extract b (endP s b)) = errP s b := by
  have hg := endP_gt s b
  have he := endP_le hb
  have hz : (s.extract b (endP s b)).size = endP s b - b := by simp; omega
  have hmin : min (s.extract b (endP s b)).size 12 ≤ endP s b - b := by omega
  have hms := size_begin (b := b) he hmin
  have hmb := fun j => bt_begin (b := b) (j := j) he hmin
  have hlong : (if 12 < (s.extract b (endP s b)).size then (22 : Int) else 0) = if b + 12 < endP s b then 22 else 0 := by
    rw [hz]
    by_cases h : b + 12 < endP s b
    · rw [if_pos (by omega), if_pos h]
    · rw [if_neg (by omega), if_neg h]
  by_cases k0 : kindP s b = 0
  · unfold faultB errP badP
    rw [k0]; rfl
  have k0' : (kindP s b == 0) = false := by simpa using k0
  by_cases k1 : kindP s b = 1
  · have hl := kindP_one k1
    have hn : nameB ((s.extract b (endP s b)).extract 0 (min (s.extract b (endP s b)).size 12)) = true := by
      refine nameB_of (by rw [hms]; omega) (by rw [hms]; omega) (fun j hj => ?_)
      rw [hms] at hj
      rw [hmb j hj]
      rcases Nat.eq_zero_or_pos j with rfl | hp
      · simp [okName, hl]
      · have ht : okTail (bt s b) (bt s (b + j)) = true := by
          refine runTo_all (s := s) (k := b + 1) (by omega) ?_
          rw [← endP_name (.inl k1)]; omega
        unfold okTail at ht
        rw [low_not_up hl] at ht
        simp at ht
        simp only [okName, Bool.or_eq_true, Bool.and_eq_true, decide_eq_true_eq]
        rcases ht with ht | ht
        · exact .inr ⟨hp, ht⟩
        · exact .inl ht.1
    have hbad : badP s b = false := by
      have : bt s b ≠ 95 := by intro e; rw [e] at hl; simp [lowZ] at hl
      simp [badP, k0, this]
    unfold faultB errP
    rw [hn, hbad, k1]
    simpa using hlong
  have k1' : (kindP s b == 1) = false := by simpa using k1
  by_cases k2 : kindP s b = 2
  · obtain ⟨m, hm⟩ : ∃ m, m = (s.extract b (endP s b)).extract 0 (min (s.extract b (endP s b)).size 12) := ⟨_, rfl⟩
    have main : varB m = !(badP s b) := by
      rw [← hm] at hms hmb
      have hfit : fitsB m = true := by simp [fitsB, hms]; omega
      have hp : 0 < m.size := by omega
      have htail : ∀ j, 1 ≤ j → j < m.size → okTail (bt s b) (bt m j) = true := fun j h1 h2 => by
        rw [hmb j (by omega)]
        refine runTo_all (s := s) (k := b + 1) (by omega) ?_
        rw [← endP_name (.inr k2)]; omega
      have h0 : bt m 0 = bt s b := hmb 0 (by omega)
      rcases kindP_two k2 with hu | hu
      · have h95 : bt s b ≠ 95 := by intro e; rw [e] at hu; simp [upZ] at hu
        have hw : varB m = writtenB m := var_writ hfit hp (by rw [← bt_of hp, h0]; exact h95)
        rw [hw]
        have hbad : badP s b = false := by simp [badP, k0, h95]
        rw [hbad]
        unfold writtenB
        refine (allB_iff _ _ _).2 (fun j hj => ?_)
        rcases Nat.eq_zero_or_pos j with rfl | hj1
        · rw [h0]; simp [okVar, hu]
        · have ht := htail j hj1 hj
          simp only [okTail, Bool.or_eq_true, Bool.and_eq_true] at ht
          simp only [okVar, Bool.or_eq_true, Bool.and_eq_true, decide_eq_true_eq]
          rcases ht with (ht | ht) | ht
          · exact .inr ⟨hj1, .inr ht⟩
          · exact .inr ⟨hj1, .inl ht.1⟩
          · exact .inl ht.1
      · have hw : varB m = numberedB m := var_num hfit hp (by rw [← bt_of hp, h0]; exact hu)
        rw [hw]
        have hd : ∀ j, 1 ≤ j → j < m.size → digZ (bt m j) = true := fun j h1 h2 => by
          have ht := htail j h1 h2
          rw [hu] at ht
          simpa [okTail, upZ] using ht
        by_cases h1 : endP s b = b + 1
        · have : m.size = 1 := by omega
          simp [badP, hu, h1, numberedB, this]
        · have hs1 : 1 < m.size := by omega
          have hb1 : bt m 1 = bt s (b + 1) := hmb 1 (by omega)
          by_cases h48 : bt s (b + 1) = 48
          · have : numberedB m = false := numbered_no 1 hs1 (by rw [← bt_of hs1, hb1, h48]; rfl)
            rw [this]
            simp [badP, hu, h48]
          · have hbad : badP s b = false := by simp [badP, k0, h1, h48]
            rw [hbad]
            unfold numberedB
            rw [(allB_iff _ _ _).2 (fun j hj => ?_)]
            · simp; omega
            · rcases j with _ | _ | j
              · rw [h0, hu]; rfl
              · have := hd 1 (by omega) hs1
                rw [show (0 + 1) = 1 from rfl]
                rw [hb1] at this ⊢
                simp [okNum, this, h48]
              · rw [okNum_two (by omega)]
                exact hd _ (by omega) hj
    unfold faultB errP
    rw [← hm, main, k2]
    cases badP s b
    · simpa using hlong
    · rfl
  have k2' : (kindP s b == 2) = false := by simpa using k2
  have hbad : badP s b = false := by
    have : bt s b ≠ 95 := fun e => k2 (kindP_of_under e)
    simp [badP, k0, this]
  unfold faultB errP
  rw [k0', k1', k2', hbad]
  simpa using hlong
end Go.Proofs.Ytkcbhbkldcebiaa
