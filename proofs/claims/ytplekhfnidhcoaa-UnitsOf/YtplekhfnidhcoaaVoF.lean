/- UnitsOf's walk. -/
import Derived.Test.YtplekhfnidhcoaaVoE
import Derived.Test.YtplekhfnidhcoaaUnK
namespace Go.Proofs.Ytplekhfnidhcoaa
open Go.RowKit Go.Shelf Go.Deep

set_option maxRecDepth 100000 in
set_option maxHeartbeats 8000000 in
theorem unitsOf_walk (p : Option Addr) (n c : Nat) (l : List Sym) (x1 : ByteArray × Int) (l1 : Fo) (a1 : Option Addr) (c1 : Nat) (x2 : ByteArray × Int) (l2 : Fo) (a2 : Option Addr) (c2 : Nat) (w : World) (hI : SigAt w p n l) (hn : n ≤ 2932031007317) (h1 : TmAt w x1 a1 c1 l1) (h2 : TmAt w x2 a2 c2 l2) :
    Calls Try.prog 3 #[.slice p n c, .agg #[.string x1.1, .int .i64 x1.2, .slice a1 (lenF l1) c1], .agg #[.string x2.1, .int .i64 x2.2, .slice a2 (lenF l2) c2]] w fun e w' => e = .returned (.bool true) ∧ Below w.heap.size w w' := by
  have b1 : Box ((w.alloc (.cells #[.string x1.1, .int .i64 x1.2, .slice a1 (lenF l1) c1] 26)).alloc (.cells #[.string x2.1, .int .i64 x2.2, .slice a2 (lenF l2) c2] 26)) w.heap.size 26 #[.string x1.1, .int .i64 x1.2, .slice a1 (lenF l1) c1] := (Box.new w 26 _).over _
  have b2 := Box.new (w.alloc (.cells #[.string x1.1, .int .i64 x1.2, .slice a1 (lenF l1) c1] 26)) 26 #[.string x2.1, .int .i64 x2.2, .slice a2 (lenF l2) c2]
  rw [World.size_alloc] at b2
  have hlow : Below w.heap.size w ((w.alloc (.cells #[.string x1.1, .int .i64 x1.2, .slice a1 (lenF l1) c1] 26)).alloc (.cells #[.string x2.1, .int .i64 x2.2, .slice a2 (lenF l2) c2] 26)) := ((Below.refl _ w).alloc (Nat.le_refl _) _).alloc (by simp) _
  have HI := hid hI; have H1 := hid h1; have H2 := hid h2; have HX1 := hid b1; have HX2 := hid b2; have HLO := hid hlow
  obtain ⟨R, hR⟩ : ∃ R, refTo (onL (stB x1 l1 x2 l2) l) n = R := ⟨_, rfl⟩
  have hle := refTo_le (onL (stB x1 l1 x2 l2) l) n
  rw [hR] at hle
  have HR := hid hR
  clear hI h1 h2 b1 b2 hlow hR
  go_enter Try.func3, Try.ntmps3
  go_upto_region 1 with fail
  generalize (w.alloc (.cells #[.string x1.1, .int .i64 x1.2, .slice a1 (lenF l1) c1] 26)).alloc (.cells #[.string x2.1, .int .i64 x2.2, .slice a2 (lenF l2) c2] 26) = W0 at HX1 HX2 HLO ⊢
  go_wp2_with fail
  refine (head_any _).mono ?_
  rintro e w1 ⟨rfl, hb1⟩
  have HY1 := hid (HX1.out.below hb1); have HY2 := hid (HX2.out.below hb1); have HL1 := hid (HLO.out.trans (hb1.mono HLO.out.size))
  clear hb1 HX1 HX2 HLO
  have t0 : w1.cell? ⟨w.heap.size, 0, none⟩ = some (.string x1.1) := HY1.out.c 0
  have t1 : w1.cell? ⟨w.heap.size, 1, none⟩ = some (.int .i64 x1.2) := HY1.out.c 1
  have t2 : w1.cell? ⟨w.heap.size, 2, none⟩ = some (.slice a1 (lenF l1) c1) := HY1.out.c 2
  go_wp2_with fail
  refine (lent_any x1 l1 a1 c1 w1 (H1.out.below HL1.out)).mono ?_
  rintro e w2 ⟨a3, c3, rfl, ho3, hb2⟩
  have bA := alloc_below0 w2 (.cells #[.string x1.1, .int .i64 x1.2, .slice a3 (lenF l1) c3] 26)
  have HO3 := hid (ho3.below bA)
  have hb3 : Below w1.heap.size w1 (w2.alloc (.cells #[.string x1.1, .int .i64 x1.2, .slice a3 (lenF l1) c3] 26)) := hb2.trans (bA.mono hb2.size)
  have HY1b := hid (HY1.out.below hb3); have HY2b := hid (HY2.out.below hb3); have HL2 := hid (HL1.out.trans (hb3.mono HL1.out.size)); have HX3 := hid (Box.new w2 26 #[.string x1.1, .int .i64 x1.2, .slice a3 (lenF l1) c3])
  clear ho3 hb2 bA hb3 t0 t1 t2 HY1 HY2
  obtain ⟨B3, hB3⟩ : ∃ B, w2.heap.size = B := ⟨_, rfl⟩
  go_upto_region 3 with fail
  generalize w2.alloc (.cells #[.string x1.1, .int .i64 x1.2, .slice a3 (lenF l1) c3] 26) = w3 at HO3 HY1b HY2b HL2 HX3 ⊢
  rw [hB3] at HX3
  clear hB3
  have t0 : w3.cell? ⟨w.heap.size + 1, 0, none⟩ = some (.string x2.1) := HY2b.out.c 0
  have t1 : w3.cell? ⟨w.heap.size + 1, 1, none⟩ = some (.int .i64 x2.2) := HY2b.out.c 1
  have t2 : w3.cell? ⟨w.heap.size + 1, 2, none⟩ = some (.slice a2 (lenF l2) c2) := HY2b.out.c 2
  go_wp2_with fail
  refine (lent_any x2 l2 a2 c2 w3 (H2.out.below HL2.out)).mono ?_
  rintro e w4 ⟨a4, c4, rfl, ho4, hb4⟩
  have bA := alloc_below0 w4 (.cells #[.string x2.1, .int .i64 x2.2, .slice a4 (lenF l2) c4] 26)
  have HO4 := hid (ho4.below bA)
  have hb5 : Below w3.heap.size w3 (w4.alloc (.cells #[.string x2.1, .int .i64 x2.2, .slice a4 (lenF l2) c4] 26)) := hb4.trans (bA.mono hb4.size)
  have HO3b := hid (HO3.out.below hb5); have HX3b := hid (HX3.out.below hb5); have HZ1 := hid (HY1b.out.below hb5); have HZ2 := hid (HY2b.out.below hb5); have HL4 := hid (HL2.out.trans (hb5.mono HL2.out.size)); have HX4 := hid (Box.new w4 26 #[.string x2.1, .int .i64 x2.2, .slice a4 (lenF l2) c4])
  clear ho4 hb4 bA hb5 t0 t1 t2 HY1b HY2b HO3 HX3
  obtain ⟨B4, hB4⟩ : ∃ B, w4.heap.size = B := ⟨_, rfl⟩
  go_upto_region 4 with fail
  generalize w4.alloc (.cells #[.string x2.1, .int .i64 x2.2, .slice a4 (lenF l2) c4] 26) = w5 at HO4 HO3b HX3b HZ1 HZ2 HL4 HX4 ⊢
  rw [hB4] at HX4
  clear hB4
  have u0 : w5.cell? ⟨B3, 0, none⟩ = some (.string x1.1) := HX3b.out.c 0
  have u1 : w5.cell? ⟨B3, 1, none⟩ = some (.int .i64 x1.2) := HX3b.out.c 1
  have u2 : w5.cell? ⟨B3, 2, none⟩ = some (.slice a3 (lenF l1) c3) := HX3b.out.c 2
  have u3 : w5.cell? ⟨B4, 0, none⟩ = some (.string x2.1) := HX4.out.c 0
  have u4 : w5.cell? ⟨B4, 1, none⟩ = some (.int .i64 x2.2) := HX4.out.c 1
  have u5 : w5.cell? ⟨B4, 2, none⟩ = some (.slice a4 (lenF l2) c4) := HX4.out.c 2
  have HOF := hid (of_any p n c l x1 l1 a3 c3 x2 l2 a4 c4 w5 (HI.out.below HL4.out) hn HO3b.out.tm HO4.out.tm)
  rw [HR.out] at HOF
  go_wp2_with fail
  refine HOF.out.mono ?_
  rintro e w6 ⟨q6, d6, rfl, hi6, hb6⟩
  have HI6 := hid hi6
  have HO3c := hid (HO3b.out.below hb6); have HO4c := hid (HO4.out.below hb6); have HX3c := hid (HX3b.out.below hb6); have HX4c := hid (HX4.out.below hb6); have HW1 := hid (HZ1.out.below hb6); have HW2 := hid (HZ2.out.below hb6); have HL6 := hid (HL4.out.trans (hb6.mono HL4.out.size))
  clear hi6 hb6 u0 u1 u2 u3 u4 u5 HOF HO3b HO4 HX3b HX4 HZ1 HZ2
  have u0 : w6.cell? ⟨w.heap.size, 0, none⟩ = some (.string x1.1) := HW1.out.c 0
  have u1 : w6.cell? ⟨w.heap.size, 1, none⟩ = some (.int .i64 x1.2) := HW1.out.c 1
  have u2 : w6.cell? ⟨w.heap.size, 2, none⟩ = some (.slice a1 (lenF l1) c1) := HW1.out.c 2
  have u3 : w6.cell? ⟨w.heap.size + 1, 0, none⟩ = some (.string x2.1) := HW2.out.c 0
  have u4 : w6.cell? ⟨w.heap.size + 1, 1, none⟩ = some (.int .i64 x2.2) := HW2.out.c 1
  have u5 : w6.cell? ⟨w.heap.size + 1, 2, none⟩ = some (.slice a2 (lenF l2) c2) := HW2.out.c 2
  have HRF := hid (rof_any p n c l x1 l1 a1 c1 x2 l2 a2 c2 w6 (HI.out.below HL6.out) hn (H1.out.below HL6.out) (H2.out.below HL6.out))
  rw [HR.out] at HRF
  go_wp2_with fail
  refine HRF.out.mono ?_
  rintro e w7 ⟨q7, d7, rfl, hi7, hb7⟩
  have HI7 := hid hi7; have HI6b := hid (HI6.out.below hb7)
  have HO3d := hid (HO3c.out.below hb7); have HO4d := hid (HO4c.out.below hb7); have HX3d := hid (HX3c.out.below hb7); have HX4d := hid (HX4c.out.below hb7); have HV1 := hid (HW1.out.below hb7); have HV2 := hid (HW2.out.below hb7); have HL7 := hid (HL6.out.trans (hb7.mono HL6.out.size))
  clear hi7 hb7 u0 u1 u2 u3 u4 u5 HRF HO3c HO4c HX3c HX4c HW1 HW2 HI6
  have u0 : w7.cell? ⟨w.heap.size, 0, none⟩ = some (.string x1.1) := HV1.out.c 0
  have u1 : w7.cell? ⟨w.heap.size, 1, none⟩ = some (.int .i64 x1.2) := HV1.out.c 1
  have u2 : w7.cell? ⟨w.heap.size, 2, none⟩ = some (.slice a1 (lenF l1) c1) := HV1.out.c 2
  have u3 : w7.cell? ⟨B3, 0, none⟩ = some (.string x1.1) := HX3d.out.c 0
  have u4 : w7.cell? ⟨B3, 1, none⟩ = some (.int .i64 x1.2) := HX3d.out.c 1
  have u5 : w7.cell? ⟨B3, 2, none⟩ = some (.slice a3 (lenF l1) c3) := HX3d.out.c 2
  go_wp2_with fail
  refine (kept_any _ x1 l1 a3 a1 c3 c1 w7 HO3d.out (H1.out.below HL7.out)).mono ?_
  rintro e w8 ⟨rfl, hb8⟩
  have HI8 := hid (HI7.out.below hb8); have HI6c := hid (HI6b.out.below hb8); have HO4e := hid (HO4d.out.below hb8); have HX4e := hid (HX4d.out.below hb8); have HV2b := hid (HV2.out.below hb8); have HL8 := hid (HL7.out.trans (hb8.mono HL7.out.size))
  clear hb8 u0 u1 u2 u3 u4 u5 HO3d HO4d HX3d HX4d HV1 HV2 HI7 HI6b
  have u0 : w8.cell? ⟨w.heap.size + 1, 0, none⟩ = some (.string x2.1) := HV2b.out.c 0
  have u1 : w8.cell? ⟨w.heap.size + 1, 1, none⟩ = some (.int .i64 x2.2) := HV2b.out.c 1
  have u2 : w8.cell? ⟨w.heap.size + 1, 2, none⟩ = some (.slice a2 (lenF l2) c2) := HV2b.out.c 2
  have u3 : w8.cell? ⟨B4, 0, none⟩ = some (.string x2.1) := HX4e.out.c 0
  have u4 : w8.cell? ⟨B4, 1, none⟩ = some (.int .i64 x2.2) := HX4e.out.c 1
  have u5 : w8.cell? ⟨B4, 2, none⟩ = some (.slice a4 (lenF l2) c4) := HX4e.out.c 2
  go_wp2_with fail
  refine (kept_any _ x2 l2 a4 a2 c4 c2 w8 HO4e.out (H2.out.below HL8.out)).mono ?_
  rintro e w9 ⟨rfl, hb9⟩
  have HI9 := hid (HI8.out.below hb9); have HI6d := hid (HI6c.out.below hb9); have HL9 := hid (HL8.out.trans (hb9.mono HL8.out.size))
  clear hb9 u0 u1 u2 u3 u4 u5 HO4e HX4e HV2b HI8 HI6c
  obtain ⟨m, hm⟩ : ∃ m, R.length = m := ⟨_, rfl⟩
  rw [hm] at hle ⊢
  have HM := hid hm
  have hmz : (m : Int) ≤ 2932031007317 := by omega
  clear hm
  go_wp2_with fail
  go_loopw [14] (fun iv wr => ∃ i : Nat, i ≤ m ∧ iv = .int .i64 i ∧ Below w9.heap.size w9 wr) (fun iv _ => m - (intOf iv).toNat)
  case atStart => exact ⟨0, Nat.zero_le _, rfl, Below.refl _ _⟩
  case round =>
    obtain ⟨i, hi, rfl, hbw⟩ := hrel
    have HBW := hid hbw
    clear hbw
    by_cases hlt : i < m
    · have hil : i < R.length := by rw [HM.out]; exact hlt
      obtain ⟨g1, o1, rfl, e1⟩ := (HI6d.out.below HBW.out).cells i hil
      obtain ⟨g2, o2, rfl, e2⟩ := (HI9.out.below HBW.out).cells i hil
      generalize R[i]'hil = z at e1 e2
      have hne := later_some wr
      have k1 := later_cell e1
      have k2 := later_cell e2
      have hiz : (i : Int) < (m : Int) := by omega
      have hzz : (z != z) = false := by simp
      clear e1 e2 hil
      go_wp2_with fail
      refine wp_region_later (by kernel_rfl) (by kernel_rfl) ?_
      repeat (go_big_quiet_step (fail))
      refine wpQuiet_nil ?_
      intro _ hw'
      obtain ⟨b3, hw''⟩ := hw'
      subst hw''
      have HB3 := hid (HBW.out.trans (b3.below.mono HBW.out.size))
      clear k1 k2
      go_wp2
      go_roundw
      case rel => exact ⟨i + 1, by omega, by go_num, HB3.out⟩
      case measure => simp [intOf]; omega
    · go_wp2
      go_ret
      exact ⟨rfl, HL9.out.trans (HBW.out.mono HL9.out.size)⟩
end Go.Proofs.Ytplekhfnidhcoaa
