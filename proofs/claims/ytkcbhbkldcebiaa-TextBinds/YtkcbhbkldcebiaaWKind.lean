/- What kindOf, length and fault of package words answer. -/
import Derived.Test.YtkcbhbkldcebiaaWLeaf
import Derived.Test.YtkcbhbkldcebiaaSVar
import Derived.Test.YtkcbhbkldcebiaaLater
namespace Go.Proofs.Ytkcbhbkldcebiaa
open Go.RowKit

theorem ext_bt {a b : ByteArray} (hz : a.size = b.size) (h : ∀ j, j < a.size → bt a j = bt b j) : a = b := by
  apply ByteArray.ext
  apply Array.ext
  · exact hz
  · intro i h1 h2
    have := h i h1
    rw [bt_of (s := a) (j := i) h1, bt_of (s := b) (j := i) h2] at this
    have h' : (a[i]'h1).toNat = (b[i]'h2).toNat := by omega
    exact UInt8.toNat_inj.1 h'
theorem bytes_eq_iff (a b : ByteArray) : (a.toList == b.toList) = true ↔ a = b := by
  rw [beq_iff_eq, ByteArray.toList_eq, ByteArray.toList_eq]
  constructor
  · intro h
    exact ByteArray.ext (Array.toList_inj.1 h)
  · rintro rfl; rfl

def arrow (s : ByteArray) : Bool := bt s 0 == 45 && bt s 1 == 62
theorem arrow_ext (s : ByteArray) (h : 2 ≤ s.size) : ((s.extract 0 2).toList == [45, 62]) = arrow s := by
  have hl : ([45, 62] : List UInt8) = (⟨#[45, 62]⟩ : ByteArray).toList := by decide +kernel
  rw [hl]
  have e0 := bt_ext s 0 2 0 h
  have e1 := bt_ext s 0 2 1 h
  simp at e0 e1
  have g0 : bt ⟨#[45, 62]⟩ 0 = 45 := by decide +kernel
  have g1 : bt ⟨#[45, 62]⟩ 1 = 62 := by decide +kernel
  rw [Bool.eq_iff_iff, bytes_eq_iff]
  constructor
  · intro he
    rw [he, g0] at e0
    rw [he, g1] at e1
    simp [arrow, ← e0, ← e1]
  · intro ha
    simp [arrow] at ha
    have hz : (s.extract 0 2).size = 2 := by simp; omega
    refine ext_bt (by rw [hz]; rfl) (fun j hj => ?_)
    rw [hz] at hj
    rcases j with _ | _ | j
    · rw [e0, g0, ha.1]
    · rw [show (0 + 1) = 1 from rfl, e1, g1, ha.2]
    · omega

set_option maxHeartbeats 400000 in
theorem hasPrefix0_any (s : ByteArray) (w : World) (hs : s.size ≤ maxLen) : Calls Try.prog 100 #[.string s, .string ⟨#[45, 62]⟩] w fun e w' => e = .returned (.bool (arrow s)) ∧ w' = w := by
  unfold maxLen at hs
  by_cases h : 2 ≤ s.size
  · have h2 : (2 : Int) ≤ (s.size : Int) := by omega
    have he : Hid (((s.extract 0 2).toList == [45, 62]) = arrow s) := arrow_ext s h
    go_enter Try.func100, Try.ntmps100
    go_wp2
    go_ret
    refine ⟨?_, rfl⟩
    rw [← he.out]; rfl
  · have h2 : ¬ (2 : Int) ≤ (s.size : Int) := by omega
    have he : Hid (arrow s = false) := by
      show arrow s = false
      simp [arrow, bt_out (show s.size ≤ 1 by omega)]
    go_enter Try.func100, Try.ntmps100
    go_wp2
    go_ret
    refine ⟨?_, rfl⟩
    rw [he.out]; rfl
theorem hasPrefix_any (s : ByteArray) (w : World) (hs : s.size ≤ maxLen) : Calls Try.prog 95 #[.string s, .string ⟨#[45, 62]⟩] w fun e w' => e = .returned (.bool (arrow s)) ∧ w' = w := by
  go_enter Try.func95, Try.ntmps95
  go_wp2_with (go_at_call 100; refine (hasPrefix0_any _ _ hs).mono ?_; rintro e w' ⟨rfl, rfl⟩)
  go_ret
  exact ⟨rfl, rfl⟩

theorem kindP_arrow {s : ByteArray} (h : arrow s = true) : kindP s 0 = 7 := by
  simp [arrow] at h
  simp [kindP, h.1, h.2, lowZ, upZ]

set_option maxHeartbeats 1000000 in
theorem kindOf_any (s : ByteArray) (w : World) (hs : s.size ≤ maxLen) (hp : 0 < s.size) : Calls Try.prog 85 #[.string s] w fun e w' => e = .returned (.int .i64 (kindP s 0)) ∧ w' = w := by
  have h00 : (0 : Int) < (s.size : Int) := by omega
  have hk : Hid (kindP s 0 = if lowZ ((s[0]'hp).toNat : Int) then (1 : Int) else if upZ ((s[0]'hp).toNat : Int) || ((s[0]'hp).toNat : Int) == 95 then 2 else if ((s[0]'hp).toNat : Int) == 40 then 3 else if ((s[0]'hp).toNat : Int) == 41 then 4 else if ((s[0]'hp).toNat : Int) == 44 then 5
  else if ((s[0]'hp).toNat : Int) == 61 then 6 else if arrow s then 7 else 0) := by
    show kindP s 0 = _
    simp only [kindP, arrow, bt_of hp]
  cases h1 : lowZ ((s[0]'hp).toNat : Int)
  · cases h2 : upZ ((s[0]'hp).toNat : Int)
    · cases h3 : (((s[0]'hp).toNat : Int) == 95)
      · cases h4 : (((s[0]'hp).toNat : Int) == 40)
        · cases h5 : (((s[0]'hp).toNat : Int) == 41)
          · cases h6 : (((s[0]'hp).toNat : Int) == 44)
            · cases h7 : (((s[0]'hp).toNat : Int) == 61)
              · cases h8 : arrow s
                all_goals
                  have hE := hk.out
                  rw [h1, h2, h3, h4, h5, h6, h7, h8] at hE
                  have HE : Hid (kindP s 0 = _) := hE
                  clear hE hk
                  go_enter Try.func85, Try.ntmps85
                  go_wp2_with (first | (go_at_call 93; refine (wsmall_any _ _).mono ?_; rintro e w' ⟨rfl, rfl⟩) | (go_at_call 94; refine (wgreat_any _ _).mono ?_; rintro e w' ⟨rfl, rfl⟩) | (go_at_call 95; refine (hasPrefix_any _ _ hs).mono ?_; rintro e w' ⟨rfl, rfl⟩))
                  go_ret
                  exact ⟨by rw [HE.out]; rfl, rfl⟩
              · have HE : Hid (kindP s 0 = 6) := by rw [hk.out, h1, h2, h3, h4, h5, h6, h7]; exact rfl
                clear hk
                go_enter Try.func85, Try.ntmps85
                go_wp2_with (first | (go_at_call 93; refine (wsmall_any _ _).mono ?_; rintro e w' ⟨rfl, rfl⟩) | (go_at_call 94; refine (wgreat_any _ _).mono ?_; rintro e w' ⟨rfl, rfl⟩))
                go_ret
                exact ⟨by rw [HE.out]; rfl, rfl⟩
            · have HE : Hid (kindP s 0 = 5) := by rw [hk.out, h1, h2, h3, h4, h5, h6]; exact rfl
              clear hk
              go_enter Try.func85, Try.ntmps85
              go_wp2_with (first | (go_at_call 93; refine (wsmall_any _ _).mono ?_; rintro e w' ⟨rfl, rfl⟩) | (go_at_call 94; refine (wgreat_any _ _).mono ?_; rintro e w' ⟨rfl, rfl⟩))
              go_ret
              exact ⟨by rw [HE.out]; rfl, rfl⟩
          · have HE : Hid (kindP s 0 = 4) := by rw [hk.out, h1, h2, h3, h4, h5]; exact rfl
            clear hk
            go_enter Try.func85, Try.ntmps85
            go_wp2_with (first | (go_at_call 93; refine (wsmall_any _ _).mono ?_; rintro e w' ⟨rfl, rfl⟩) | (go_at_call 94; refine (wgreat_any _ _).mono ?_; rintro e w' ⟨rfl, rfl⟩))
            go_ret
            exact ⟨by rw [HE.out]; rfl, rfl⟩
        · have HE : Hid (kindP s 0 = 3) := by rw [hk.out, h1, h2, h3, h4]; exact rfl
          clear hk
          go_enter Try.func85, Try.ntmps85
          go_wp2_with (first | (go_at_call 93; refine (wsmall_any _ _).mono ?_; rintro e w' ⟨rfl, rfl⟩) | (go_at_call 94; refine (wgreat_any _ _).mono ?_; rintro e w' ⟨rfl, rfl⟩))
          go_ret
          exact ⟨by rw [HE.out]; rfl, rfl⟩
      · have HE : Hid (kindP s 0 = 2) := by rw [hk.out, h1, h2, h3]; exact rfl
        clear hk
        go_enter Try.func85, Try.ntmps85
        go_wp2_with (first | (go_at_call 93; refine (wsmall_any _ _).mono ?_; rintro e w' ⟨rfl, rfl⟩) | (go_at_call 94; refine (wgreat_any _ _).mono ?_; rintro e w' ⟨rfl, rfl⟩))
        go_ret
        exact ⟨by rw [HE.out]; rfl, rfl⟩
    · have HE : Hid (kindP s 0 = 2) := by rw [hk.out, h1, h2]; exact rfl
      clear hk
      go_enter Try.func85, Try.ntmps85
      go_wp2_with (first | (go_at_call 93; refine (wsmall_any _ _).mono ?_; rintro e w' ⟨rfl, rfl⟩) | (go_at_call 94; refine (wgreat_any _ _).mono ?_; rintro e w' ⟨rfl, rfl⟩))
      go_ret
      exact ⟨by rw [HE.out]; rfl, rfl⟩
  · have HE : Hid (kindP s 0 = 1) := by rw [hk.out, h1]; exact rfl
    clear hk
    go_enter Try.func85, Try.ntmps85
    go_wp2_with (first | (go_at_call 93; refine (wsmall_any _ _).mono ?_; rintro e w' ⟨rfl, rfl⟩) | (go_at_call 94; refine (wgreat_any _ _).mono ?_; rintro e w' ⟨rfl, rfl⟩))
    go_ret
    exact ⟨by rw [HE.out]; rfl, rfl⟩

set_option maxHeartbeats 400000 in
theorem length_any (k : Int) (s : ByteArray) (w : World) (hs : s.size ≤ maxLen) (hp : 0 < s.size) : Calls Try.prog 86 #[.int .i64 k, .string s] w fun e w' => e = .returned (.int .i64 (lenK k s 0)) ∧ w' = w := by
  have hk : Hid (lenK k s 0 = if k == 1 || k == 2 then runTo (okTail (bt s 0)) s 1 else if k == 7 then 2 else 1) := rfl
  cases h1 : (k == 1)
  · cases h2 : (k == 2)
    · cases h7 : (k == 7)
      · have HE : Hid (lenK k s 0 = 1) := by rw [hk.out, h1, h2, h7]; exact rfl
        clear hk
        go_enter Try.func86, Try.ntmps86
        go_wp2
        go_ret
        exact ⟨by rw [HE.out]; rfl, rfl⟩
      · have HE : Hid (lenK k s 0 = 2) := by rw [hk.out, h1, h2, h7]; exact rfl
        clear hk
        go_enter Try.func86, Try.ntmps86
        go_wp2
        go_ret
        exact ⟨by rw [HE.out]; rfl, rfl⟩
    · have HE : Hid (lenK k s 0 = runTo (okTail (bt s 0)) s 1) := by rw [hk.out, h1, h2]; exact rfl
      clear hk
      go_enter Try.func86, Try.ntmps86
      go_wp2_with (go_at_call 96; refine (nameLength_any _ _ hs hp).mono ?_; rintro e w' ⟨rfl, rfl⟩)
      go_ret
      exact ⟨by rw [HE.out]; rfl, rfl⟩
  · have HE : Hid (lenK k s 0 = runTo (okTail (bt s 0)) s 1) := by rw [hk.out, h1]; exact rfl
    clear hk
    go_enter Try.func86, Try.ntmps86
    go_wp2_with (go_at_call 96; refine (nameLength_any _ _ hs hp).mono ?_; rintro e w' ⟨rfl, rfl⟩)
    go_ret
    exact ⟨by rw [HE.out]; rfl, rfl⟩

/-- Why a word of this kind may not be. -/
def faultB (k : Int) (t : ByteArray) : Int :=
  if k == 0 || (k == 1 && !(nameB (t.extract 0 (min t.size 12)))) || (k == 2 && !(varB (t.extract 0 (min t.size 12)))) then 21 else if 12 < t.size then 22 else 0

theorem fault_short {k : Int} {t : ByteArray} (h : ¬ 12 < (t.size : Int)) : faultB k t = if k == 0 || (k == 1 && !(nameB t)) || (k == 2 && !(varB t)) then 21 else 0 := by
  have e : t.extract 0 (min t.size 12) = t := by rw [show min t.size 12 = t.size by omega]; simp
  unfold faultB
  rw [e, if_neg (show ¬ 12 < t.size by omega)]
theorem fault_long {k : Int} {t : ByteArray} (h : 12 < (t.size : Int)) : faultB k t = if k == 0 || (k == 1 && !(nameB (t.extract 0 12))) || (k == 2 && !(varB (t.extract 0 12))) then 21 else 22 := by
  unfold faultB
  rw [show min t.size 12 = 12 by omega, if_pos (show 12 < t.size by omega)]

set_option maxHeartbeats 1000000 in
theorem fault_any (k : Int) (t : ByteArray) (w : World) (hs : t.size ≤ maxLen) : Calls Try.prog 87 #[.int .i64 k, .string t] w fun e w' => e = .returned (.int .i64 (faultB k t)) ∧ Below w.heap.size w w' := by
  unfold maxLen at hs
  by_cases hl : 12 < (t.size : Int)
  · have hk : Hid (faultB k t = _) := fault_long hl
    have hml : Hid ((t.extract 0 12).size ≤ maxLen) := by show _ ≤ _; simp; unfold maxLen; omega
    cases h0 : (k == 0)
    · cases h1 : (k == 1)
      · cases h2 : (k == 2)
        · have HE : Hid (faultB k t = 22) := by rw [hk.out, h0, h1, h2]; exact rfl
          clear hk
          go_enter Try.func87, Try.ntmps87
          go_wp2
          go_ret
          exact ⟨by rw [HE.out]; rfl, Below.refl _ _⟩
        · cases hv : varB (t.extract 0 12)
          all_goals
            have HE := hk.out
            rw [h0, h1, h2, hv] at HE
            have HE' : Hid (faultB k t = _) := HE
            clear hk HE
            go_enter Try.func87, Try.ntmps87
            go_wp2_with (go_at_call 98; refine (svar_any _ _ hml.out).mono ?_; rintro e w1 ⟨rfl, hb1⟩)
            go_ret
            exact ⟨by rw [HE'.out]; rfl, hb1⟩
      · have h2 : (k == 2) = false := by have := eq_of_beq h1; subst this; rfl
        cases hv : nameB (t.extract 0 12)
        all_goals
          have HE := hk.out
          rw [h0, h1, h2, hv] at HE
          have HE' : Hid (faultB k t = _) := HE
          clear hk HE
          go_enter Try.func87, Try.ntmps87
          go_wp2_with (go_at_call 97; refine (sname_any _ _).mono ?_; rintro e w1 ⟨rfl, hb1⟩)
          go_ret
          exact ⟨by rw [HE'.out]; rfl, hb1⟩
    · have HE : Hid (faultB k t = 21) := by rw [hk.out, h0]; exact rfl
      clear hk
      go_enter Try.func87, Try.ntmps87
      go_wp2
      go_ret
      exact ⟨by rw [HE.out]; rfl, Below.refl _ _⟩
  · have hk : Hid (faultB k t = _) := fault_short hl
    have hml : Hid (t.size ≤ maxLen) := hs
    cases h0 : (k == 0)
    · cases h1 : (k == 1)
      · cases h2 : (k == 2)
        · have HE : Hid (faultB k t = 0) := by rw [hk.out, h0, h1, h2]; exact rfl
          clear hk
          go_enter Try.func87, Try.ntmps87
          go_wp2
          go_ret
          exact ⟨by rw [HE.out]; rfl, Below.refl _ _⟩
        · cases hv : varB t
          all_goals
            have HE := hk.out
            rw [h0, h1, h2, hv] at HE
            have HE' : Hid (faultB k t = _) := HE
            clear hk HE
            go_enter Try.func87, Try.ntmps87
            go_wp2_with (go_at_call 98; refine (svar_any _ _ hml.out).mono ?_; rintro e w1 ⟨rfl, hb1⟩)
            go_ret
            exact ⟨by rw [HE'.out]; rfl, hb1⟩
      · have h2 : (k == 2) = false := by have := eq_of_beq h1; subst this; rfl
        cases hv : nameB t
        all_goals
          have HE := hk.out
          rw [h0, h1, h2, hv] at HE
          have HE' : Hid (faultB k t = _) := HE
          clear hk HE
          go_enter Try.func87, Try.ntmps87
          go_wp2_with (go_at_call 97; refine (sname_any _ _).mono ?_; rintro e w1 ⟨rfl, hb1⟩)
          go_ret
          exact ⟨by rw [HE'.out]; rfl, hb1⟩
    · have HE : Hid (faultB k t = 21) := by rw [hk.out, h0]; exact rfl
      clear hk
      go_enter Try.func87, Try.ntmps87
      go_wp2
      go_ret
      exact ⟨by rw [HE.out]; rfl, Below.refl _ _⟩

end Go.Proofs.Ytkcbhbkldcebiaa
