/- Numbers and vectors held against each other. -/
import Derived.Test.YtbdkogccjnmfoaaLiE
namespace Go.Proofs.Ytbdkogccjnmfoaa
open Go.RowKit Go.Shelf

/-- Which of two numbers is the lesser. -/
def cmpI (x y : Int) : Int := if x < y then -1 else if y < x then 1 else 0
theorem nan_any (x : Int) (w : World) : Calls Try.prog 78 #[.int .i64 x] w fun e w' => e = .returned (.bool false) ∧ w' = w := by
  go_enter Try.func78, Try.ntmps78
  have h : (x != x) = false := by simp
  go_wp2
  go_ret
  exact ⟨rfl, rfl⟩
theorem cmp_any (x y : Int) (w : World) : Calls Try.prog 71 #[.int .i64 x, .int .i64 y] w fun e w' => e = .returned (.int .i64 (cmpI x y)) ∧ w' = w := by
  go_enter Try.func71, Try.ntmps71
  go_wp2_with fail
  refine (nan_any x w).mono ?_
  rintro e w1 ⟨rfl, rfl⟩
  go_wp2_with fail
  refine (nan_any y w1).mono ?_
  rintro e w2 ⟨rfl, rfl⟩
  by_cases h1 : x < y
  · go_wp2_with fail
    go_ret
    simp [cmpI, h1]
  · by_cases h2 : y < x
    · go_wp2_with fail
      go_ret
      simp [cmpI, h1, h2]
    · go_wp2_with fail
      go_ret
      refine ⟨?_, rfl⟩
      unfold cmpI
      rw [if_neg (by omega), if_neg (by omega)]
      rfl
/-- Which of two vectors stands ahead. -/
def cmpL : List Int → List Int → Int
  | [], [] => 0
  | [], _ :: _ => -1
  | _ :: _, [] => 1
  | a :: l, b :: m => if cmpI a b = 0 then cmpL l m else cmpI a b
theorem cmpL_refl : ∀ l, cmpL l l = 0
  | [] => rfl
  | a :: l => by
    rw [cmpL, if_pos (by unfold cmpI; simp)]
    exact cmpL_refl l
theorem cmpL_eq : ∀ l m, cmpL l m = 0 → l = m
  | [], [], _ => rfl
  | [], _ :: _, h => by rw [cmpL] at h; omega
  | _ :: _, [], h => by rw [cmpL] at h; omega
  | a :: l, b :: m, h => by
    rw [cmpL] at h
    split at h
    · rename_i h1
      unfold cmpI at h1
      have : a = b := by split at h1 <;> (try split at h1) <;> omega
      rw [this, cmpL_eq l m h]
    · omega
theorem cmpL_anti : ∀ l m, cmpL m l = -cmpL l m
  | [], [] => rfl
  | [], _ :: _ => rfl
  | _ :: _, [] => rfl
  | a :: l, b :: m => by
    rw [cmpL, cmpL]
    have h := cmpL_anti l m
    unfold cmpI
    repeat' split
    all_goals omega
theorem cmpL_trans : ∀ l m n, cmpL l m < 0 → cmpL m n < 0 → cmpL l n < 0
  | [], [], _, h, _ => by rw [cmpL] at h; omega
  | [], _ :: _, [], _, h => by rw [cmpL] at h; omega
  | [], _ :: _, _ :: _, _, _ => by rw [cmpL]; omega
  | _ :: _, [], _, h, _ => by rw [cmpL] at h; omega
  | _ :: _, _ :: _, [], _, h => by rw [cmpL] at h; omega
  | a :: l, b :: m, c :: n, h1, h2 => by
    have h := cmpL_trans l m n
    rw [cmpL] at h1 h2 ⊢
    unfold cmpI at h1 h2 ⊢
    repeat' split at h1
    all_goals (repeat' split at h2)
    all_goals (repeat' split)
    all_goals first | omega | exact h h1 h2
theorem cmpL_ntrans (l m n : List Int) (h1 : ¬ cmpL l m < 0) (h2 : ¬ cmpL m n < 0) : ¬ cmpL l n < 0 := by
  intro h
  rcases Int.lt_trichotomy (cmpL m l) 0 with h3 | h3 | h3
  · have h4 := cmpL_anti l n
    by_cases h5 : cmpL m n = 0
    · have := cmpL_eq _ _ h5
      subst this
      have := cmpL_anti l m
      omega
    · have h6 := cmpL_anti m n
      have := cmpL_trans n m l (by omega) h3
      omega
  · have := cmpL_eq _ _ h3
    subst this
    exact h2 h
  · have := cmpL_anti l m
    omega
set_option maxRecDepth 100000 in
set_option maxHeartbeats 2000000 in
theorem compare_any (p : Option Addr) (c : Nat) (l : List Int) (q : Option Addr) (d : Nat) (m : List Int) (w : World) (hL : IntsAt w p l) (hM : IntsAt w q m) :
    Calls Try.prog 56 #[.slice p l.length c, .slice q m.length d] w fun e w' => e = .returned (.int .i64 (cmpL l m)) ∧ w' = w := by
  have HL := hid hL; have HM := hid hM
  have hmax : maxLen = 9223372036854775807 := rfl
  have hs1 := hL.small; have hs2 := hM.small
  clear hL hM
  obtain ⟨R, hR⟩ : ∃ R, cmpL l m = R := ⟨_, rfl⟩
  rw [hR]
  have HR := hid hR
  clear hR
  go_enter Try.func56, Try.ntmps56
  go_wp2_with fail
  go_loopw [11] (fun i wr => ∃ j : Nat, j ≤ l.length ∧ j ≤ m.length ∧ i = .int .i64 j ∧ cmpL (l.drop j) (m.drop j) = R ∧ wr = w) (fun i _ => l.length - (intOf i).toNat)
  case atStart => exact ⟨0, Nat.zero_le _, Nat.zero_le _, rfl, HR.out, rfl⟩
  case round =>
    obtain ⟨j, hj, hj2, rfl, hr, rfl⟩ := hrel
    by_cases hlt : j < l.length
    · obtain ⟨b, o, rfl, hc⟩ := HL.out.cells j hlt
      by_cases hlt2 : j < m.length
      · obtain ⟨b2, o2, rfl, hc2⟩ := HM.out.cells j hlt2
        rw [List.drop_eq_getElem_cons hlt, List.drop_eq_getElem_cons hlt2, cmpL] at hr
        obtain ⟨x, hx⟩ : ∃ x, l[j] = x := ⟨_, rfl⟩
        obtain ⟨y, hy⟩ : ∃ y, m[j] = y := ⟨_, rfl⟩
        rw [hx] at hc hr
        rw [hy] at hc2 hr
        have HC := hid (cmp_any x y wr)
        obtain ⟨z, hz⟩ : ∃ z, cmpI x y = z := ⟨_, rfl⟩
        rw [hz] at HC hr
        by_cases h0 : z = 0
        · rw [if_pos h0] at hr
          have h0' : (z != 0) = false := by simpa using h0
          have HRR := hid hr
          clear hr hx hy hz h0
          go_wp2_with fail
          refine HC.out.mono ?_
          rintro e w1 ⟨rfl, rfl⟩
          go_wp2_with fail
          go_roundw
          case rel => exact ⟨j + 1, by omega, by omega, by go_num, HRR.out, trivial⟩
          case measure => simp [intOf]; omega
        · rw [if_neg h0] at hr
          have h0' : (z != 0) = true := by simpa using h0
          have HRR := hid hr
          clear hr hx hy hz h0
          go_wp2_with fail
          refine HC.out.mono ?_
          rintro e w1 ⟨rfl, rfl⟩
          go_wp2_with fail
          go_ret
          exact ⟨by rw [← HRR.out]; rfl, rfl⟩
      · have e2 : m.length ≤ j := by omega
        rw [List.drop_eq_getElem_cons hlt, show List.drop j m = [] from List.drop_eq_nil_of_le e2, cmpL] at hr
        have HRR := hid hr
        clear hr
        go_wp2_with fail
        go_ret
        exact ⟨by rw [← HRR.out]; rfl, rfl⟩
    · have e1 : j = l.length := by omega
      by_cases hlt2 : l.length < m.length
      · rw [e1, List.drop_length, List.drop_eq_getElem_cons hlt2, cmpL] at hr
        have HRR := hid hr
        clear hr
        go_wp2_with fail
        go_ret
        exact ⟨by rw [← HRR.out]; rfl, rfl⟩
      · rw [e1, List.drop_length, List.drop_eq_nil_of_le (by omega), cmpL] at hr
        have HRR := hid hr
        clear hr
        go_wp2_with fail
        go_ret
        exact ⟨by rw [← HRR.out]; rfl, rfl⟩
set_option maxRecDepth 100000 in
theorem order_any (p : Option Addr) (c : Nat) (l : List Int) (q : Option Addr) (d : Nat) (m : List Int) (w : World) (hL : IntsAt w p l) (hM : IntsAt w q m) :
    Calls Try.prog 39 #[.slice p l.length c, .slice q m.length d] w fun e w' => e = .returned (.int .i64 (cmpL l m)) ∧ w' = w := by
  have H := hid (compare_any p c l q d m w hL hM)
  clear hL hM
  go_enter Try.func39, Try.ntmps39
  go_wp2_with fail
  refine H.out.mono ?_
  rintro e w1 ⟨rfl, rfl⟩
  go_wp2_with fail
  go_ret
  exact ⟨rfl, rfl⟩
end Go.Proofs.Ytbdkogccjnmfoaa
