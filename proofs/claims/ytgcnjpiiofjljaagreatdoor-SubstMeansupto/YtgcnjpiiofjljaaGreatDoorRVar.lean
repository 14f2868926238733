/- What the document's Var answers of any text. -/
import Derived.Test.YtgcnjpiiofjljaaGreatDoorSVar
namespace Go.Proofs.YtgcnjpiiofjljaaGreatDoor
open Go.RowKit

theorem var_num {s : ByteArray} (hf : fitsB s = true) (hp : 0 < s.size) (h : ((s[0]'hp).toNat : Int) = 95) : varB s = numberedB s := by
  unfold varB writtenB
  rw [hf, allB_false hp (by rw [bt_of hp, h]; rfl)]; simp
theorem var_writ {s : ByteArray} (hf : fitsB s = true) (hp : 0 < s.size) (h : ((s[0]'hp).toNat : Int) ≠ 95) : varB s = writtenB s := by
  unfold varB
  rw [hf, numbered_no 0 hp (by simp [okNum, h])]; simp
theorem okNum_two {j : Nat} {c : Int} (h : 2 ≤ j) : okNum j c = digZ c := by
  have h0 : ¬ j = 0 := by omega
  have h1 : ¬ j = 1 := by omega
  simp [okNum, h, h0, h1]

set_option maxHeartbeats 800000 in
theorem rvar_any (s : ByteArray) (w : World) (hs : s.size ≤ maxLen) : Calls Tryz.prog 43 #[.string s] w fun e w' => e = .returned (.bool (varB s)) ∧ w' = w := by
  unfold maxLen at hs
  by_cases h0 : (s.size : Int) < 1
  · go_enter Tryz.func43, Tryz.ntmps43
    go_wp2
    go_ret
    exact ⟨by simp [varB, fitsB]; omega, rfl⟩
  · by_cases h1 : 12 < (s.size : Int)
    · go_enter Tryz.func43, Tryz.ntmps43
      go_wp2
      go_ret
      exact ⟨by simp [varB, fitsB]; omega, rfl⟩
    · have hp : 0 < s.size := by omega
      have hfit : Hid (fitsB s = true) := by show fitsB s = true; simp [fitsB]; omega
      cases hu : (((s[0]'hp).toNat : Int) == 95)
      · have hu' : Hid (((s[0]'hp).toNat : Int) ≠ 95) := by show _ ≠ _; simpa using hu
        have hv : Hid (varB s = writtenB s) := var_writ hfit.out hp hu'.out
        cases hl : upZ ((s[0]'hp).toNat : Int)
        · have hbad : Hid (varB s = false) := by
            show varB s = false
            rw [hv.out]; unfold writtenB
            rw [allB_false hp (by rw [bt_of hp]; simp [okVar, hl])]
          go_enter Tryz.func43, Tryz.ntmps43
          go_wp2_with (go_at_call 63; refine (rup_any _ _).mono ?_; rintro e w' ⟨rfl, rfl⟩)
          go_ret
          exact ⟨by rw [hbad.out]; rfl, rfl⟩
        · have h01 : Hid (allB okVar s 1 = true) := by
            show allB okVar s 1 = true
            rw [allB_succ, allB_zero, bt_of hp]; simp [okVar, hl]
          go_enter Tryz.func43, Tryz.ntmps43
          go_wp2_with (go_at_call 63; refine (rup_any _ _).mono ?_; rintro e w' ⟨rfl, rfl⟩)
          go_loop [4] (fun i => ∃ k : Nat, 1 ≤ k ∧ k ≤ s.size ∧ i = .int .i64 k ∧ allB okVar s k = true) (fun i => s.size - (intOf i).toNat)
          case atStart => exact ⟨1, Nat.le_refl _, hp, rfl, h01.out⟩
          case round =>
            obtain ⟨k, hk1, hk, rfl, hall⟩ := hrel
            have HA : Hid (allB okVar s k = true) := hall
            clear hall
            by_cases hlt : k < s.size
            · have hst : Hid (∀ b, okVar k ((s[k]'hlt).toNat : Int) = b → allB okVar s (k + 1) = b) := by
                intro b hb; rw [allB_succ, HA.out, bt_of hlt, hb]; rfl
              have hbad : Hid (okVar k ((s[k]'hlt).toNat : Int) = false → varB s = false) := by
                intro hb; rw [hv.out]; unfold writtenB; rw [allB_false hlt (by rw [bt_of hlt]; exact hb)]
              cases hlk : lowZ ((s[k]'hlt).toNat : Int)
              · cases huk : upZ ((s[k]'hlt).toNat : Int)
                · cases hdk : digZ ((s[k]'hlt).toNat : Int)
                  · go_wp2_with (first | (go_at_call 64; refine (rlow_any _ _).mono ?_; rintro e w' ⟨rfl, rfl⟩) | (go_at_call 62; refine (rdigit_any _ _).mono ?_; rintro e w' ⟨rfl, rfl⟩) | (go_at_call 63; refine (rup_any _ _).mono ?_; rintro e w' ⟨rfl, rfl⟩))
                    go_ret
                    exact ⟨by rw [hbad.out (by simp [okVar, hlk, hdk, huk])]; rfl, rfl⟩
                  · go_wp2_with (first | (go_at_call 64; refine (rlow_any _ _).mono ?_; rintro e w' ⟨rfl, rfl⟩) | (go_at_call 62; refine (rdigit_any _ _).mono ?_; rintro e w' ⟨rfl, rfl⟩) | (go_at_call 63; refine (rup_any _ _).mono ?_; rintro e w' ⟨rfl, rfl⟩))
                    go_round
                    case rel => exact ⟨k + 1, by omega, by omega, by go_num, hst.out _ (by simp [okVar, hdk]; omega)⟩
                    case measure => simp [intOf]; omega
                · go_wp2_with (first | (go_at_call 64; refine (rlow_any _ _).mono ?_; rintro e w' ⟨rfl, rfl⟩) | (go_at_call 62; refine (rdigit_any _ _).mono ?_; rintro e w' ⟨rfl, rfl⟩) | (go_at_call 63; refine (rup_any _ _).mono ?_; rintro e w' ⟨rfl, rfl⟩))
                  go_round
                  case rel => exact ⟨k + 1, by omega, by omega, by go_num, hst.out _ (by simp [okVar, huk])⟩
                  case measure => simp [intOf]; omega
              · go_wp2_with (first | (go_at_call 64; refine (rlow_any _ _).mono ?_; rintro e w' ⟨rfl, rfl⟩) | (go_at_call 62; refine (rdigit_any _ _).mono ?_; rintro e w' ⟨rfl, rfl⟩) | (go_at_call 63; refine (rup_any _ _).mono ?_; rintro e w' ⟨rfl, rfl⟩))
                go_round
                case rel => exact ⟨k + 1, by omega, by omega, by go_num, hst.out _ (by simp [okVar, hlk]; omega)⟩
                case measure => simp [intOf]; omega
            · have hgood : Hid (varB s = true) := by
                have hke : s.size = k := by omega
                show varB s = true; rw [hv.out]; unfold writtenB; rw [hke, HA.out]
              go_wp2
              go_ret
              exact ⟨by rw [hgood.out]; rfl, rfl⟩
      · have hu' : Hid (((s[0]'hp).toNat : Int) = 95) := by show _ = _; simpa using hu
        have hv : Hid (varB s = numberedB s) := var_num hfit.out hp hu'.out
        by_cases h2 : (s.size : Int) < 2
        · have hbad : Hid (varB s = false) := by show varB s = false; rw [hv.out]; simp [numberedB]; omega
          go_enter Tryz.func43, Tryz.ntmps43
          go_wp2
          go_ret
          exact ⟨by rw [hbad.out]; rfl, rfl⟩
        · have hp1 : 1 < s.size := by omega
          cases hz : (((s[1]'hp1).toNat : Int) == 48)
          · have hz' : Hid (((s[1]'hp1).toNat : Int) ≠ 48) := by show _ ≠ _; simpa using hz
            have h01 : Hid (allB okNum s 1 = true) := by
              show allB okNum s 1 = true
              rw [allB_succ, allB_zero, bt_of hp, hu'.out]; rfl
            go_enter Tryz.func43, Tryz.ntmps43
            go_wp2
            go_loop [3] (fun i => ∃ k : Nat, 1 ≤ k ∧ k ≤ s.size ∧ i = .int .i64 k ∧ allB okNum s k = true) (fun i => s.size - (intOf i).toNat)
            case atStart => exact ⟨1, Nat.le_refl _, hp, rfl, h01.out⟩
            case round =>
              obtain ⟨k, hk1, hk, rfl, hall⟩ := hrel
              have HA : Hid (allB okNum s k = true) := hall
              clear hall
              by_cases hlt : k < s.size
              · have hst : Hid (okNum k ((s[k]'hlt).toNat : Int) = true → allB okNum s (k + 1) = true) := by
                  intro hb; rw [allB_succ, HA.out, bt_of hlt, hb]; rfl
                have hbad : Hid (okNum k ((s[k]'hlt).toNat : Int) = false → varB s = false) := by
                  intro hb; rw [hv.out]; exact numbered_no k hlt hb
                cases hdk : digZ ((s[k]'hlt).toNat : Int)
                · go_wp2_with (go_at_call 62; refine (rdigit_any _ _).mono ?_; rintro e w' ⟨rfl, rfl⟩)
                  go_ret
                  exact ⟨by rw [hbad.out (by simp [okNum, hdk]; omega)]; rfl, rfl⟩
                · have hok : Hid (okNum k ((s[k]'hlt).toNat : Int) = true) := by
                    show okNum _ _ = true
                    by_cases hz1 : k = 1
                    · subst hz1; have := hz'.out; simp [okNum, hdk]; omega
                    · rw [okNum_two (by omega)]; exact hdk
                  go_wp2_with (go_at_call 62; refine (rdigit_any _ _).mono ?_; rintro e w' ⟨rfl, rfl⟩)
                  go_round
                  case rel => exact ⟨k + 1, by omega, by omega, by go_num, hst.out hok.out⟩
                  case measure => simp [intOf]; omega
              · have hgood : Hid (varB s = true) := by
                  have hke : s.size = k := by omega
                  show varB s = true; rw [hv.out]; unfold numberedB; rw [hke, HA.out]; simp; omega
                go_wp2
                go_ret
                exact ⟨by rw [hgood.out]; rfl, rfl⟩
          · have hbad : Hid (varB s = false) := by
              show varB s = false; rw [hv.out]
              have : ((s[1]'hp1).toNat : Int) = 48 := by simpa using hz
              exact numbered_no 1 hp1 (by rw [this]; rfl)
            go_enter Tryz.func43, Tryz.ntmps43
            go_wp2
            go_ret
            exact ⟨by rw [hbad.out]; rfl, rfl⟩
end Go.Proofs.YtgcnjpiiofjljaaGreatDoor
