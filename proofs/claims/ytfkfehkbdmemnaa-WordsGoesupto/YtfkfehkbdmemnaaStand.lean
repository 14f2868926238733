/- What WordsStand walks: each word stands in the text, blanks alone between. -/
import Derived.Test.YtfkfehkbdmemnaaWFits
namespace Go.Proofs.Ytfkfehkbdmemnaa
open Go.RowKit

/-- The word at a place of the list, where the words ahead of it end. -/
theorem word_at {s : ByteArray} {pre : List Wd} {A k : Nat} (hA : A ≤ s.size) (hw : wordsFrom s 0 = pre ++ wordsFrom s A) (hp : pre.length = k) (hk : k < (wordsFrom s 0).length) :
    IsWord s A ((wordsFrom s 0)[k]'hk) (nx s A).to ∧ wordsFrom s 0 = (pre ++ [(wordsFrom s 0)[k]'hk]) ++ wordsFrom s (nx s A).to := by
  cases h : nxStop (nx s A)
  · have hgo := words_go hA h
    have e : (wordsFrom s 0)[k]'hk = (nx s A).word := by
      have : (wordsFrom s 0)[k]? = some (nx s A).word := by rw [hw, hgo, ← hp]; simp
      rw [List.getElem?_eq_getElem hk] at this
      simpa using this
    rw [e]
    exact ⟨(nx_word h).1, by rw [hw, hgo]; simp⟩
  · have : (wordsFrom s 0).length = pre.length := by rw [hw, words_stop hA h]; simp
    omega
/-- Behind the last word there are blanks alone. -/
theorem blanks_end {s : ByteArray} {pre : List Wd} {A : Nat} (hA : A ≤ s.size) (hw : wordsFrom s 0 = pre ++ wordsFrom s A) (hl : (lst s 0).2 = (lst s A).2) (he : errOf s = 0) (hp : pre.length = (wordsFrom s 0).length) :
    ∀ j (h : j < s.size), A ≤ j → ((s[j]'h).toNat : Int) = 32 := by
  intro j hj hAj
  have hend : wordsFrom s A = [] := by
    rw [hw] at hp; simp at hp; exact hp
  cases h : nxStop (nx s A)
  · rw [words_go hA h] at hend; cases hend
  · have hlA := lst_stop hA h
    have her : (nx s A).err = 0 := by
      have : (lst s 0).2.2 = 0 := he
      rw [hl, hlA] at this; exact this
    have hge : s.size ≤ runTo blank s A := by
      unfold nx at her h
      split at her
      · assumption
      · rename_i h1
        split at her
        · rename_i h2
          rw [if_neg h1, if_pos h2] at h
          simp [nxStop, errP_kind h2] at h
        · rename_i h2
          exact absurd her h2
    have := runTo_all (p := blank) (s := s) hAj (by omega)
    rw [bt_of hj] at this
    simpa [blank] using this
/-- Ahead of a word there are blanks alone. -/
theorem blanks_ahead {s : ByteArray} {A z : Nat} {x : Wd} (h : IsWord s A x z) : ∀ j (hj : j < s.size), A ≤ j → j < x.place → ((s[j]'hj).toNat : Int) = 32 := by
  intro j hj h1 h2
  rw [h.place] at h2
  have := runTo_all (p := blank) h1 h2
  rw [bt_of hj] at this
  simpa [blank] using this
theorem lst_next {s : ByteArray} {A : Nat} (hA : A ≤ s.size) (h : nxStop (nx s A) = false) : (lst s A).2 = (lst s (nx s A).to).2 := by rw [lst_go hA h]
theorem isWord_go {s : ByteArray} {pre : List Wd} {A k : Nat} (hA : A ≤ s.size) (hw : wordsFrom s 0 = pre ++ wordsFrom s A) (hp : pre.length = k) (hk : k < (wordsFrom s 0).length) : nxStop (nx s A) = false := by
  cases h : nxStop (nx s A)
  · rfl
  · have : (wordsFrom s 0).length = pre.length := by rw [hw, words_stop hA h]; simp
    omega

set_option maxRecDepth 100000 in
set_option maxHeartbeats 4000000 in
theorem wordsStand_walk (s : ByteArray) (w : World) (hs : s.size ≤ 1048576) :
    Calls Try.prog 6 #[.string s] w fun e w' => e = .returned (.bool true) ∧ Below w.heap.size w w' := by
  go_enter Try.func6, Try.ntmps6
  go_wp2_with fail
  refine (head_any _).mono ?_
  rintro e w1 ⟨rfl, hb1⟩
  have T1 : Hid (Below w.heap.size w w1) := hb1
  clear hb1
  go_wp2_with fail
  refine (list_any s _ (by omega)).mono ?_
  rintro e w2 ⟨v, rfl, hrow, hb2⟩
  obtain ⟨a, ca, rfl, _, hat, _⟩ := wdsAt_of_owns hrow
  have T2 : Hid (Below w.heap.size w w2) := T1.out.trans (hb2.mono T1.out.size)
  clear hrow hb2
  by_cases herr : errOf s = 0
  · have hlw : lstWords s = wordsFrom s 0 := by unfold lstWords; rw [if_pos herr]
    rw [hlw] at hat ⊢
    rw [herr]
    have HA : Hid (WdsAt w2 a (wordsFrom s 0).length (wordsFrom s 0)) := hat
    have HE : Hid (errOf s = 0) := herr
    have hsmall := words_small s
    obtain ⟨n, hn⟩ : ∃ n, n = (wordsFrom s 0).length := ⟨_, rfl⟩
    rw [← hn] at hsmall HA ⊢
    have HN : Hid (n = (wordsFrom s 0).length) := hn
    clear hat hlw herr hn
    go_wp2
    go_loopw [7, 8] (fun t i wr => ∃ (pre : List Wd) (A k : Nat), t = .int .i64 A ∧ i = .int .i64 k ∧ k ≤ n ∧ A ≤ s.size ∧ pre.length = k ∧ wordsFrom s 0 = pre ++ wordsFrom s A ∧ (lst s 0).2 = (lst s A).2 ∧ Below w2.heap.size w2 wr) (fun _ i _ => n - (intOf i).toNat)
    case atStart => exact ⟨[], 0, 0, rfl, rfl, Nat.zero_le _, Nat.zero_le _, rfl, rfl, rfl, Below.refl _ _⟩
    case round =>
      obtain ⟨pre, A, k, rfl, rfl, hk, hA, hpl, hw, hl, hb⟩ := hrel
      have HB : Hid (Below w2.heap.size w2 wr) := hb
      clear hb
      by_cases hlt : k < n
      · have hlk : k < (wordsFrom s 0).length := by have := HN.out; omega
        obtain ⟨hword, hwn⟩ := word_at hA hw hpl hlk
        have hln := hl.trans (lst_next hA (isWord_go hA hw hpl hlk))
        obtain ⟨g, off, rfl, hg⟩ := HA.out.cells k hlk
        have hx := hg.block (HB.out.block g hg.lt)
        obtain ⟨x, hxx⟩ : ∃ x, x = (wordsFrom s 0)[k]'hlk := ⟨_, rfl⟩
        rw [← hxx] at hx hword hwn
        obtain ⟨z, hz⟩ : ∃ z, z = (nx s A).to := ⟨_, rfl⟩
        rw [← hz] at hword hwn hln
        clear hxx hz hg hw hl
        have hfits := fits_word hword
        have hbl := blanks_ahead hword
        have h1 := hword.from'
        have h2 := hword.gt
        have h3 := hword.le
        have h4 := hword.size
        have h5 : s.extract x.place (x.place + x.text.size) = x.text := by rw [h4, hword.ends]; exact hword.text.symm
        clear hword
        obtain ⟨kd, tx, pl⟩ := x
        simp only at h1 h2 h3 h4 h5 hbl
        have c0 := hx.kind
        have c1 := hx.text
        have c2 := hx.place
        simp only at c0 c1 c2
        clear hx
        subst h4
        have HF : Hid (FitsP ⟨kd, tx, pl⟩) := hfits
        have HBL : Hid (∀ j (hj : j < s.size), A ≤ j → j < pl → ((s[j]'hj).toNat : Int) = 32) := hbl
        have HW : Hid (wordsFrom s 0 = (pre ++ [⟨kd, tx, pl⟩]) ++ wordsFrom s (pl + tx.size)) := hwn
        have HL : Hid ((lst s 0).2 = (lst s (pl + tx.size)).2) := hln
        have HP : Hid (pre.length = k) := hpl
        have HZ : Hid (tx.size ≤ maxLen) := by show tx.size ≤ maxLen; unfold maxLen; omega
        have g0 : decide (pl < A) = false := decide_eq_false (by omega)
        have g1 : tx.toList.isEmpty = false := by
          rw [ByteArray.toList_eq]
          cases hh : tx.data.toList with
          | nil =>
            have : tx.data.toList.length = tx.size := by rw [Array.length_toList]; rfl
            rw [hh] at this
            simp at this
            omega
          | cons y r => rfl
        have g2 : decide ((s.size : Int) < (pl : Int) + (tx.size : Int)) = false := decide_eq_false (by omega)
        clear hfits hbl hwn hln hpl
        have hk0 : (0 : Int) ≤ (k : Int) := by omega
        have hkn : (k : Int) < (n : Int) := by omega
        have hp0 : (0 : Int) ≤ (pl : Int) := by omega
        go_wp2
        have hne := later_some (wr.alloc (.cells #[.int .i64 kd, .string tx, .int .i64 pl] 26))
        have hnew := WdBox.new wr ⟨kd, tx, pl⟩
        have d0 := later_cell hnew.c0
        have d1 := later_cell hnew.c1
        have d2 := later_cell hnew.c2
        simp only at d0 d1 d2
        clear hnew c0 c1 c2
        refine wp_region_later (by kernel_rfl) (by kernel_rfl) ?_
        repeat (go_big_quiet_step (first | (go_at_call 16; exact calls_later (rfits_any _ _ _ _ HZ.out HF.out)) | fail))
        refine wpQuiet_nil ?_
        intro _ hw'
        obtain ⟨b2, hw''⟩ := hw'
        subst hw''
        have HB2 : Hid (Below w2.heap.size w2 b2.now) := (HB.out.alloc HB.out.size _).trans (b2.below.mono (by have := HB.out.size; simp; omega))
        have c0 := d0 b2
        have c1 := d1 b2
        have c2 := d2 b2
        clear d0 d1 d2 hne g0 g1 g2 h5 HF HZ HB
        go_wp2
        go_loopw [7] (fun t wq => ∃ j : Nat, t = .int .i64 j ∧ A ≤ j ∧ j ≤ pl ∧ wq = b2.now) (fun t _ => pl - (intOf t).toNat)
        case atStart => exact ⟨A, rfl, Nat.le_refl _, h1, rfl⟩
        case round =>
          obtain ⟨j, rfl, hj1, hj2, rfl⟩ := hrel
          by_cases hjl : j < pl
          · have hjs : j < s.size := by omega
            have hblank : ((s[j]'hjs).toNat : Int) = 32 := HBL.out j hjs hj1 hjl
            have hbb : (((s[j]'hjs).toNat : Int) != 32) = false := by simp [hblank]
            clear hblank
            have hj0 : (0 : Int) ≤ (j : Int) := by omega
            have hjz : (j : Int) < (s.size : Int) := by omega
            go_wp2
            go_roundw
            case rel => exact ⟨j + 1, by go_num, by omega, by omega, trivial⟩
            case measure => simp [intOf]; omega
          · have hjp : ¬ (j : Int) < (pl : Int) := by omega
            go_wp2
            go_roundw
            case rel => exact ⟨pre ++ [⟨kd, tx, pl⟩], pl + tx.size, k + 1, rfl, by go_num, by omega, h3, by simp [HP.out], HW.out, HL.out, HB2.out⟩
            case measure => simp [intOf]; omega
      · have hkn : pre.length = (wordsFrom s 0).length := by have := HN.out; omega
        have HBL : Hid (∀ j (h : j < s.size), A ≤ j → ((s[j]'h).toNat : Int) = 32) := blanks_end hA hw hl HE.out hkn
        clear hw hl hkn hpl
        go_wp2
        go_loopw [7] (fun t wq => ∃ j : Nat, t = .int .i64 j ∧ A ≤ j ∧ j ≤ s.size ∧ wq = wr) (fun t _ => s.size - (intOf t).toNat)
        case atStart => exact ⟨A, rfl, Nat.le_refl _, hA, rfl⟩
        case round =>
          obtain ⟨j, rfl, hj1, hj2, rfl⟩ := hrel
          by_cases hjl : j < s.size
          · have hblank : ((s[j]'hjl).toNat : Int) = 32 := HBL.out j hjl hj1
            have hbb : (((s[j]'hjl).toNat : Int) != 32) = false := by simp [hblank]
            clear hblank
            go_wp2
            go_roundw
            case rel => exact ⟨j + 1, by go_num, by omega, by omega, trivial⟩
            case measure => simp [intOf]; omega
          · go_wp2
            go_ret
            exact ⟨rfl, T2.out.trans (HB.out.mono T2.out.size)⟩
  · have hlw : lstWords s = [] := by unfold lstWords; rw [if_neg herr]
    rw [hlw]
    have hne : (errOf s != 0) = true := by simpa using herr
    clear hat herr hlw
    go_wp2
    go_ret
    exact ⟨rfl, T2.out⟩
end Go.Proofs.Ytfkfehkbdmemnaa
