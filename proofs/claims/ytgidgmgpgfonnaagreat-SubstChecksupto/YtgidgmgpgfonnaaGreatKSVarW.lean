import Derived.Test.YtgidgmgpgfonnaaGreatKSRep
/- Var of package sig answers of any text: it goes through the runes. -/
namespace Go.Proofs.YtgidgmgpgfonnaaGreat
open Go.RowKit

theorem small_any (r : Int) (w : World) : Calls Tryz.prog 81 #[.int .i32 r] w fun e w' => e = .returned (.bool (lowZ r)) ∧ w' = w := by
  by_cases h : 97 ≤ r
  · go_enter Tryz.func81, Tryz.ntmps81
    go_wp2
    go_ret
    exact ⟨by simp [lowZ, h], rfl⟩
  · go_enter Tryz.func81, Tryz.ntmps81
    go_wp2
    go_ret
    exact ⟨by simp [lowZ]; omega, rfl⟩

theorem sdigit_any (r : Int) (w : World) : Calls Tryz.prog 82 #[.int .i32 r] w fun e w' => e = .returned (.bool (digZ r)) ∧ w' = w := by
  by_cases h : 48 ≤ r
  · go_enter Tryz.func82, Tryz.ntmps82
    go_wp2
    go_ret
    exact ⟨by simp [digZ, h], rfl⟩
  · go_enter Tryz.func82, Tryz.ntmps82
    go_wp2
    go_ret
    exact ⟨by simp [digZ]; omega, rfl⟩

theorem great_any (r : Int) (w : World) : Calls Tryz.prog 80 #[.int .i32 r] w fun e w' => e = .returned (.bool (upZ r)) ∧ w' = w := by
  by_cases h : 65 ≤ r
  · go_enter Tryz.func80, Tryz.ntmps80
    go_wp2
    go_ret
    exact ⟨by simp [upZ, h], rfl⟩
  · go_enter Tryz.func80, Tryz.ntmps80
    go_wp2
    go_ret
    exact ⟨by simp [upZ]; omega, rfl⟩

theorem sgfits_any (s : ByteArray) (w : World) : Calls Tryz.prog 59 #[.string s] w fun e w' => e = .returned (.bool (fitsB s)) ∧ w' = w := by
  by_cases h : 1 ≤ (s.size : Int)
  · go_enter Tryz.func59, Tryz.ntmps59
    go_wp2
    go_ret
    exact ⟨by rw [fits_hi h]; rfl, rfl⟩
  · go_enter Tryz.func59, Tryz.ntmps59
    go_wp2
    go_ret
    exact ⟨by simp [fitsB]; omega, rfl⟩

set_option maxHeartbeats 800000 in
theorem written_any (s : ByteArray) (w : World) : Calls Tryz.prog 60 #[.string s] w fun e w' => e = .returned (.bool (writtenB s)) ∧ Below w.heap.size w w' := by
  go_enter Tryz.func60, Tryz.ntmps60
  go_wp2
  go_loopw [3, 4] (fun _ _ w' => ∃ pos : Nat, pos ≤ s.size ∧ w' = w.iter s pos ∧ allB okVar s pos = true) (fun _ _ w' => s.size - w'.iterPos w.heap.size)
  case atStart => exact ⟨0, Nat.zero_le _, rfl, allB_zero _ _⟩
  case round =>
    obtain ⟨pos, hpos, rfl, hall⟩ := hrel
    have HA : Hid (allB okVar s pos = true) := hall
    clear hall
    by_cases hp : pos < s.size
    · have hst : Hid (∀ b, okVar pos ((s[pos]'hp).toNat : Int) = b → allB okVar s (pos + 1) = b) := by
        intro b hb; rw [allB_succ, HA.out, bt_of hp, hb]; rfl
      have hbad : Hid (okVar pos ((s[pos]'hp).toNat : Int) = false → writtenB s = false) := by
        intro hb; unfold writtenB; rw [allB_false hp (by rw [bt_of hp]; exact hb)]
      by_cases ha : ((s[pos]'hp).toNat) < 128
      · have hnx := fun ty => run_next_ascii (P := Tryz.prog) w s pos ty hp ha
        cases hu : upZ ((s[pos]'hp).toNat : Int)
        · by_cases hz : pos = 0
          · subst hz
            go_wp2_with (first | (go_at_call 80; refine (great_any _ _).mono ?_; rintro e w' ⟨rfl, rfl⟩) | (go_at_call 81; refine (small_any _ _).mono ?_; rintro e w' ⟨rfl, rfl⟩) | (go_at_call 82; refine (sdigit_any _ _).mono ?_; rintro e w' ⟨rfl, rfl⟩))
            go_ret
            exact ⟨by rw [hbad.out (by simp [okVar, hu])]; rfl, below_iter _ _ _⟩
          · have hz0 : ((pos : Int) == 0) = false := beq_eq_false_iff_ne.2 (by omega)
            cases hl : lowZ ((s[pos]'hp).toNat : Int)
            · cases hd : digZ ((s[pos]'hp).toNat : Int)
              · go_wp2_with (first | (go_at_call 80; refine (great_any _ _).mono ?_; rintro e w' ⟨rfl, rfl⟩) | (go_at_call 81; refine (small_any _ _).mono ?_; rintro e w' ⟨rfl, rfl⟩) | (go_at_call 82; refine (sdigit_any _ _).mono ?_; rintro e w' ⟨rfl, rfl⟩))
                go_ret
                exact ⟨by rw [hbad.out (by simp [okVar, hu, hl, hd])]; rfl, below_iter _ _ _⟩
              · go_wp2_with (first | (go_at_call 80; refine (great_any _ _).mono ?_; rintro e w' ⟨rfl, rfl⟩) | (go_at_call 81; refine (small_any _ _).mono ?_; rintro e w' ⟨rfl, rfl⟩) | (go_at_call 82; refine (sdigit_any _ _).mono ?_; rintro e w' ⟨rfl, rfl⟩))
                go_roundw
                case rel => exact ⟨pos + 1, by omega, rfl, hst.out _ (by simp [okVar, hd]; omega)⟩
                case measure => simp; omega
            · go_wp2_with (first | (go_at_call 80; refine (great_any _ _).mono ?_; rintro e w' ⟨rfl, rfl⟩) | (go_at_call 81; refine (small_any _ _).mono ?_; rintro e w' ⟨rfl, rfl⟩) | (go_at_call 82; refine (sdigit_any _ _).mono ?_; rintro e w' ⟨rfl, rfl⟩))
              go_roundw
              case rel => exact ⟨pos + 1, by omega, rfl, hst.out _ (by simp [okVar, hl]; omega)⟩
              case measure => simp; omega
        · go_wp2_with (first | (go_at_call 80; refine (great_any _ _).mono ?_; rintro e w' ⟨rfl, rfl⟩) | (go_at_call 81; refine (small_any _ _).mono ?_; rintro e w' ⟨rfl, rfl⟩) | (go_at_call 82; refine (sdigit_any _ _).mono ?_; rintro e w' ⟨rfl, rfl⟩))
          go_roundw
          case rel => exact ⟨pos + 1, by omega, rfl, hst.out _ (by simp [okVar, hu])⟩
          case measure => simp; omega
      · have hnx : ∀ ty, (Instr.next (.pointer (some ⟨w.heap.size, 0, none⟩)) true ty).run Tryz.prog (w.iter s pos) = _ := fun ty => run_next_any w s pos ty hp
        have hd := (decode_high s pos hp (by omega)).1
        have hu0 : upZ ((Utf8.decode s pos).1 : Int) = false := upZ_high (by omega)
        have hl0 : lowZ ((Utf8.decode s pos).1 : Int) = false := lowZ_high (by omega)
        have hd0 : digZ ((Utf8.decode s pos).1 : Int) = false := digZ_high (by omega)
        by_cases hz : pos = 0
        · subst hz
          go_wp2_with (first | (go_at_call 80; refine (great_any _ _).mono ?_; rintro e w' ⟨rfl, rfl⟩) | (go_at_call 81; refine (small_any _ _).mono ?_; rintro e w' ⟨rfl, rfl⟩) | (go_at_call 82; refine (sdigit_any _ _).mono ?_; rintro e w' ⟨rfl, rfl⟩))
          go_ret
          exact ⟨by rw [hbad.out (okVar_high (by omega))]; rfl, below_iter _ _ _⟩
        · have hz0 : ((pos : Int) == 0) = false := beq_eq_false_iff_ne.2 (by omega)
          go_wp2_with (first | (go_at_call 80; refine (great_any _ _).mono ?_; rintro e w' ⟨rfl, rfl⟩) | (go_at_call 81; refine (small_any _ _).mono ?_; rintro e w' ⟨rfl, rfl⟩) | (go_at_call 82; refine (sdigit_any _ _).mono ?_; rintro e w' ⟨rfl, rfl⟩))
          go_ret
          exact ⟨by rw [hbad.out (okVar_high (by omega))]; rfl, below_iter _ _ _⟩
    · have hnx : ∀ ty, (Instr.next (.pointer (some ⟨w.heap.size, 0, none⟩)) true ty).run Tryz.prog (w.iter s pos) = _ := fun ty => run_next_end w s pos ty hp
      have hgood : Hid (writtenB s = true) := by
        have hke : s.size = pos := by omega
        show writtenB s = true; unfold writtenB; rw [hke, HA.out]
      go_wp2
      go_ret
      exact ⟨by rw [hgood.out]; rfl, below_iter _ _ _⟩

set_option maxHeartbeats 800000 in
theorem numbered_any (s : ByteArray) (w : World) (hs : s.size ≤ maxLen) : Calls Tryz.prog 61 #[.string s] w fun e w' => e = .returned (.bool (numberedB s)) ∧ Below w.heap.size w w' := by
  unfold maxLen at hs
  by_cases h2 : (s.size : Int) < 2
  · go_enter Tryz.func61, Tryz.ntmps61
    go_wp2
    go_ret
    exact ⟨by simp [numberedB]; omega, Below.refl _ _⟩
  · have hp0 : 0 < s.size := by omega
    have hp1 : 1 < s.size := by omega
    cases hu : (((s[0]'hp0).toNat : Int) != 95)
    · cases hz : (((s[1]'hp1).toNat : Int) == 48)
      · have hu' : Hid (((s[0]'hp0).toNat : Int) = 95) := by show _ = _; simpa using hu
        have hz' : Hid (((s[1]'hp1).toNat : Int) ≠ 48) := by show _ ≠ _; simpa using hz
        have h01 : Hid (allB okNum s 1 = true) := by
          show allB okNum s 1 = true
          rw [allB_succ, allB_zero, bt_of hp0, hu'.out]; rfl
        have hsz : Hid ((s.extract 1 s.size).size = s.size - 1) := ext_size s
        go_enter Tryz.func61, Tryz.ntmps61
        go_wp2
        go_loopw [4] (fun _ w' => ∃ pos : Nat, pos + 1 ≤ s.size ∧ w' = w.iter (s.extract 1 s.size) pos ∧ allB okNum s (pos + 1) = true) (fun _ w' => s.size - w'.iterPos w.heap.size)
        case atStart => exact ⟨0, hp0, rfl, h01.out⟩
        case round =>
          obtain ⟨pos, hpos, rfl, hall⟩ := hrel
          have HA : Hid (allB okNum s (pos + 1) = true) := hall
          clear hall
          by_cases hp' : pos + 1 < s.size
          · have hp : pos < (s.extract 1 s.size).size := by rw [hsz.out]; omega
            have hat := ext_at s pos hp hp'
            have hst : Hid (okNum (pos + 1) ((s[pos + 1]'hp').toNat : Int) = true → allB okNum s (pos + 1 + 1) = true) := by
              intro hb; rw [allB_succ, HA.out, bt_of hp', hb]; rfl
            by_cases ha : ((s[pos + 1]'hp').toNat) < 128
            · have hnx := fun ty => run_next_ascii (P := Tryz.prog) w (s.extract 1 s.size) pos ty hp (by rw [hat]; exact ha)
              simp only [hat] at hnx
              clear hat
              cases hd : digZ ((s[pos + 1]'hp').toNat : Int)
              · have hbad : Hid (numberedB s = false) := numbered_no (pos + 1) hp' (by simp [okNum, hd])
                go_wp2_with (first | (go_at_call 80; refine (great_any _ _).mono ?_; rintro e w' ⟨rfl, rfl⟩) | (go_at_call 81; refine (small_any _ _).mono ?_; rintro e w' ⟨rfl, rfl⟩) | (go_at_call 82; refine (sdigit_any _ _).mono ?_; rintro e w' ⟨rfl, rfl⟩))
                go_ret
                exact ⟨by rw [hbad.out]; rfl, below_iter _ _ _⟩
              · have hok : Hid (okNum (pos + 1) ((s[pos + 1]'hp').toNat : Int) = true) := by
                  show okNum _ _ = true
                  by_cases hz1 : pos = 0
                  · subst hz1; have := hz'.out; simp [okNum, hd]; omega
                  · simp [okNum, hd]; omega
                go_wp2_with (first | (go_at_call 80; refine (great_any _ _).mono ?_; rintro e w' ⟨rfl, rfl⟩) | (go_at_call 81; refine (small_any _ _).mono ?_; rintro e w' ⟨rfl, rfl⟩) | (go_at_call 82; refine (sdigit_any _ _).mono ?_; rintro e w' ⟨rfl, rfl⟩))
                go_roundw
                case rel => exact ⟨pos + 1, by omega, rfl, hst.out hok.out⟩
                case measure => simp; omega
            · have hdh := (decode_high (s.extract 1 s.size) pos hp (by rw [hat]; omega)).1
              have hnx : ∀ ty, (Instr.next (.pointer (some ⟨w.heap.size, 0, none⟩)) true ty).run Tryz.prog (w.iter (s.extract 1 s.size) pos) = _ := fun ty => run_next_any w (s.extract 1 s.size) pos ty hp
              have hd0 : digZ ((Utf8.decode (s.extract 1 s.size) pos).1 : Int) = false := digZ_high (by omega)
              have hbad : Hid (numberedB s = false) := numbered_no (pos + 1) hp' (okNum_high (by omega))
              clear hat hdh
              go_wp2_with (first | (go_at_call 80; refine (great_any _ _).mono ?_; rintro e w' ⟨rfl, rfl⟩) | (go_at_call 81; refine (small_any _ _).mono ?_; rintro e w' ⟨rfl, rfl⟩) | (go_at_call 82; refine (sdigit_any _ _).mono ?_; rintro e w' ⟨rfl, rfl⟩))
              go_ret
              exact ⟨by rw [hbad.out]; rfl, below_iter _ _ _⟩
          · have hp : ¬ pos < (s.extract 1 s.size).size := by rw [hsz.out]; omega
            have hnx : ∀ ty, (Instr.next (.pointer (some ⟨w.heap.size, 0, none⟩)) true ty).run Tryz.prog (w.iter (s.extract 1 s.size) pos) = _ := fun ty => run_next_end w (s.extract 1 s.size) pos ty hp
            have hgood : Hid (numberedB s = true) := by
              have hke : s.size = pos + 1 := by omega
              show numberedB s = true; unfold numberedB; rw [hke, HA.out]; simp; omega
            go_wp2
            go_ret
            exact ⟨by rw [hgood.out]; rfl, below_iter _ _ _⟩
      · have hbad : Hid (numberedB s = false) := numbered_no 1 hp1 (by have : ((s[1]'hp1).toNat : Int) = 48 := by simpa using hz
                                                                       rw [this]; rfl)
        go_enter Tryz.func61, Tryz.ntmps61
        go_wp2
        go_ret
        exact ⟨by rw [hbad.out]; rfl, Below.refl _ _⟩
    · have hbad : Hid (numberedB s = false) := numbered_no 0 hp0 (by have : ((s[0]'hp0).toNat : Int) ≠ 95 := by simpa using hu
                                                                     simp [okNum, this])
      go_enter Tryz.func61, Tryz.ntmps61
      go_wp2
      go_ret
      exact ⟨by rw [hbad.out]; rfl, Below.refl _ _⟩

set_option maxHeartbeats 400000 in
theorem svar_any (s : ByteArray) (w : World) (hs : s.size ≤ maxLen) : Calls Tryz.prog 39 #[.string s] w fun e w' => e = .returned (.bool (varB s)) ∧ Below w.heap.size w w' := by
  cases hf : fitsB s
  · go_enter Tryz.func39, Tryz.ntmps39
    go_wp2_with (go_at_call 59; refine (sgfits_any _ _).mono ?_; rintro e w' ⟨rfl, rfl⟩)
    go_ret
    exact ⟨by simp [varB, hf], Below.refl _ _⟩
  · cases hw : writtenB s
    · go_enter Tryz.func39, Tryz.ntmps39
      go_wp2_with (first | (go_at_call 59; refine (sgfits_any _ _).mono ?_; rintro e w' ⟨rfl, rfl⟩) | (go_at_call 60; refine (written_any _ _).mono ?_; rintro e w1 ⟨rfl, hb1⟩) | (go_at_call 61; refine (numbered_any _ _ hs).mono ?_; rintro e w2 ⟨rfl, hb2⟩))
      go_ret
      exact ⟨by simp [varB, hf, hw], hb1.trans (hb2.mono hb1.size)⟩
    · go_enter Tryz.func39, Tryz.ntmps39
      go_wp2_with (first | (go_at_call 59; refine (sgfits_any _ _).mono ?_; rintro e w' ⟨rfl, rfl⟩) | (go_at_call 60; refine (written_any _ _).mono ?_; rintro e w1 ⟨rfl, hb1⟩) | (go_at_call 61; refine (numbered_any _ _ hs).mono ?_; rintro e w2 ⟨rfl, hb2⟩))
      go_ret
      exact ⟨by simp [varB, hf, hw], hb1⟩

end Go.Proofs.YtgidgmgpgfonnaaGreat
