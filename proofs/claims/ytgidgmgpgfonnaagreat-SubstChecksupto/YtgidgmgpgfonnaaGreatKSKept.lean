import Derived.Test.YtgidgmgpgfonnaaGreatKSLent
/- What kept of the statements answers of lent binds that read as they did. -/
namespace Go.Proofs.YtgidgmgpgfonnaaGreat
open Go.RowKit Go.Deep

set_option maxRecDepth 100000 in
set_option maxHeartbeats 4000000 in
theorem keptb_any (g cap : Nat) (p : Option Addr) (bcap : Nat) (bs : List Bn) (w : World) (hL : LentB w g cap bs) (hB : BindsAt w p bs.length bs) (hn : bs.length ≤ 1048576) :
    Calls Tryz.prog 8 #[.slice (some ⟨g, 0, none⟩) bs.length cap, .slice p bs.length bcap] w fun e w' => e = .returned (.bool true) ∧ Below w.heap.size w w' := by
  have HB := hid hB; have HL := hid hL
  have hmax : maxLen = 9223372036854775807 := rfl
  have hc1 : bs.length + 1 ≤ cap := hL.room
  have hc2 : cap ≤ 9223372036854775807 := hL.most
  have hmk := hL.mark
  unfold markB at hmk
  clear hB hL
  go_enter Tryz.func8, Tryz.ntmps8
  go_wp2_with fail
  go_loopw [5, 6] (fun iv _ wr => ∃ (j : Nat), j ≤ bs.length ∧ iv = .int .i64 j ∧ Below w.heap.size w wr) (fun iv _ _ => bs.length - (intOf iv).toNat)
  case atStart => exact ⟨0, Nat.zero_le _, rfl, Below.refl _ _⟩
  case round =>
    obtain ⟨j, hj, rfl, hlow⟩ := hrel
    have HW := hid hlow
    clear hlow
    by_cases hlt : j < bs.length
    · obtain ⟨b1, o1, a1, c1, rfl, hbd⟩ := (HB.out.below HW.out).cells j hlt
      obtain ⟨a2, c2, hbd2, ho2⟩ := (HL.out.below HW.out).cells j hlt
      obtain ⟨⟨vn, ⟨x, l⟩⟩, hy⟩ : ∃ y, bs[j] = y := ⟨_, rfl⟩
      rw [hy] at hbd hbd2 ho2
      have HBD := hid hbd; have HBD2 := hid hbd2; have HO2 := hid ho2
      simp only [Nat.zero_add] at hbd2
      have hC : Hid (∀ w', Below wr.heap.size wr w' → Calls Tryz.prog 20 #[.agg #[.string x.1, .int .i64 x.2, .slice a2 (lenF l) c2], .agg #[.string x.1, .int .i64 x.2, .slice a1 (lenF l) c1]] w' fun e w'' => e = .returned (.bool true) ∧ Below w'.heap.size w' w'') := hid fun w' hb => kept_any _ x l a2 a1 c2 c1 w' (HO2.out.below hb) (HBD.out.tm.below hb)
      have hne := later_some wr
      have p1 := later_cell hbd.name; have p2 := later_cell hbd.sym; have p3 := later_cell hbd.list
      have q1 := later_cell hbd2.name; have q2 := later_cell hbd2.sym; have q3 := later_cell hbd2.list
      dsimp only at p1 p2 p3 q1 q2 q3
      have hk0 : (0 : Int) ≤ (j : Int) := by omega
      have hkn : (j : Int) < (bs.length : Int) := by omega
      clear hbd hbd2 ho2 hy
      go_wp2_with fail
      refine wp_region_later (by kernel_rfl) (by kernel_rfl) ?_
      repeat (go_big_quiet_step ((refine calls_later (hC.out _ ?_); exact Later.below _)))
      refine wpQuiet_nil ?_
      intro _ hw'
      obtain ⟨b2, hw''⟩ := hw'
      subst hw''
      have HW2 : Hid (Below w.heap.size w b2.now) := hid (HW.out.trans (b2.below.mono HW.out.size))
      have r0 := later_cell (HBD.out.below b2.below).var
      have s0 := later_cell (HBD2.out.below b2.below).var
      simp only [Nat.zero_add] at s0
      dsimp only at r0 s0
      have hne2 := later_some b2.now
      clear p1 p2 p3 q1 q2 q3 hC
      go_wp2_with fail
      refine wp_region_later (by kernel_rfl) (by kernel_rfl) ?_
      repeat (go_big_quiet_step (fail))
      refine wpQuiet_nil ?_
      intro _ hw'
      obtain ⟨b3, hw''⟩ := hw'
      subst hw''
      have HW3 : Hid (Below w.heap.size w b3.now) := hid (HW2.out.trans (b3.below.mono HW2.out.size))
      clear r0 s0
      go_wp2
      go_roundw
      case rel => exact ⟨j + 1, by omega, by go_num, HW3.out⟩
      case measure => simp [intOf]; omega
    · go_wp2
      go_ret
      exact ⟨rfl, HW.out⟩
end Go.Proofs.YtgidgmgpgfonnaaGreat
