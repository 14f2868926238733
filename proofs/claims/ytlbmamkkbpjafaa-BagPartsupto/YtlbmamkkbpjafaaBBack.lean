/- The walk of BagBack. -/
import Derived.Test.YtlbmamkkbpjafaaBBackP
namespace Go.Proofs.Ytlbmamkkbpjafaa
open Go.RowKit Go.Deep

theorem bag_mono {base base' B : Nat} {W : World} {l : List It} {p : Option Addr} {c : Nat} (h : BagAt base B W l p c) (hb : base' ≤ base) : BagAt base' B W l p c := ⟨h.1, owns65_mono h.2.1 hb, h.2.2⟩
theorem len_bag (B base : Nat) (p : Option Addr) (c : Nat) (l : List It) (w : World) (hA : BagAt base B w l p c) (hl : Bg l) (hn : l.length ≤ 1048576) : Calls Try.prog 30 #[.pointer (some ⟨B, 0, none⟩)] w fun e w' => e = .returned (.int .i64 (sumN l)) ∧ Below w.heap.size w w' :=
  len_any B p c l w hA.1 (owns_its hA.2.1) hn (fun k _ => by have := sumN_bd l hl.pos k; have := hl.sum; omega) (fun i h => by have := sumN_le l hl.pos i h; have := hl.sum; omega)
set_option maxRecDepth 100000 in
set_option maxHeartbeats 8000000 in
theorem bagBack_walk (a0 : Option Addr) (c0 : Nat) (l0 : List Th) (a1 : Option Addr) (c1 : Nat) (l1 : List Th) (w : World) (hT0 : ThsAt w a0 l0.length l0) (hT1 : ThsAt w a1 l1.length l1) (hn : l0.length + l1.length ≤ 1048576) :
    Calls Try.prog 8 #[.slice a0 l0.length c0, .slice a1 l1.length c1] w fun e w' => e = .returned (.bool true) ∧ Below w.heap.size w w' := by
  obtain ⟨hL, hLn⟩ := mk_bg l0 (by omega)
  obtain ⟨hM, hMn⟩ := mk_bg l1 (by omega)
  have hLs : sumN (mkP l0) = l0.length := (mkP_all l0).2.2
  have hMs : sumN (mkP l1) = l1.length := (mkP_all l1).2.2
  have HM0 := hid (made_any a0 c0 l0 w hT0 (by omega))
  have HT1 := hid hT1
  clear hT0 hT1
  generalize hl0 : mkP l0 = L at hL hLn hLs HM0
  have HM1 : Hid (∀ W, Below w.heap.size w W → Calls Try.prog 9 #[.slice a1 l1.length c1] W fun e w' => ∃ B p c' q d, e = .returned (.tuple #[.pointer (some ⟨B, 0, none⟩), .agg #[.slice q (mkP l1).length d]]) ∧ BagAt W.heap.size B w' (mkP l1) p c' ∧ w'.ownsRow W.heap.size 60 3 (.slice q (mkP l1).length d) (mkP l1).length (itAll (mkP l1)) ∧ W.heap.size ≤ B ∧ Below W.heap.size W w') := hid fun W hW => made_any a1 c1 l1 W (HT1.out.below hW) (by omega)
  generalize hl1 : mkP l1 = M at hM hMn hMs HM1
  have HL := hid hL; have HM := hid hM
  clear hl0 hl1 HT1 hL hM
  generalize l1.length = n1 at HM1 hMs hn ⊢
  generalize l0.length = n0 at HM0 hLs hn ⊢
  have HLS := hid hLs; have HMS := hid hMs
  clear hLs hMs
  go_enter Try.func8, Try.ntmps8
  go_wp2_with fail
  refine HM0.out.mono ?_
  rintro e w1 ⟨Bx, px, cx, qx, dx, rfl, hAx, _, hBx, hb1⟩
  have y1 : (w1.alloc (.cells #[.slice none 0 0] 27)).cell? ⟨w1.heap.size, 0, none⟩ = some (.slice none 0 0) := cell_box (World.alloc_heap_new w1 _) rfl
  have b1 := alloc_below0 w1 (.cells #[.slice qx L.length dx] 27)
  have HA1 := hid (bag_mono (hAx.below b1) (Nat.zero_le _)); have HB1 := hid (hb1.trans (b1.mono hb1.size))
  clear hAx hb1 b1 HM0 hBx
  go_wp2_with fail
  clear y1
  generalize w1.alloc (.cells #[.slice qx L.length dx] 27) = V1 at HA1 HB1 ⊢
  refine (HM1.out V1 HB1.out).mono ?_
  rintro e w2 ⟨By, py, cy, qy, dy, rfl, hAy, _, hBy, hb2⟩
  have y2 : (w2.alloc (.cells #[.slice none 0 0] 27)).cell? ⟨w2.heap.size, 0, none⟩ = some (.slice none 0 0) := cell_box (World.alloc_heap_new w2 _) rfl
  have b2 := alloc_below0 w2 (.cells #[.slice qy M.length dy] 27)
  have HA2 := hid ((HA1.out.below hb2).below b2); have HC2 := hid (bag_mono (hAy.below b2) (Nat.zero_le _)); have HB2 := hid ((HB1.out.trans (hb2.mono HB1.out.size)).trans (b2.mono (Nat.le_trans HB1.out.size hb2.size)))
  clear hAy hb2 b2 HM1 hBy HA1
  go_upto_region 5 with fail
  clear y2
  generalize w2.alloc (.cells #[.slice qy M.length dy] 27) = V2 at HA2 HC2 HB2 ⊢
  go_wp2_with fail
  refine (less_gen Bx 0 _ px cx L M V2 HA2.out HL.out hLn HM.out hMn (fun W hW => read_any Bx By 0 _ py cy M W (HA2.out.below hW).1 (HC2.out.below hW) HM.out hMn)).mono ?_
  rintro e w3 ⟨B3, p3, c3, rfl, hA3, _, hb3⟩
  have HA3 := hid (bag_mono hA3 (Nat.zero_le _)); have HX3 := hid (HA2.out.below hb3); have HY3 := hid (HC2.out.below hb3); have HB3 := hid (HB2.out.trans (hb3.mono HB2.out.size))
  clear hA3 hb3 HA2 HC2 HB2
  go_wp2_with fail
  refine (com_gen Bx 0 _ px cx L M w3 HX3.out HL.out hLn HM.out hMn (fun W hW => read_any Bx By 0 _ py cy M W (HX3.out.below hW).1 (HY3.out.below hW) HM.out hMn)).mono ?_
  rintro e w4 ⟨B4, p4, c4, rfl, hA4, _, hb4⟩
  have HA4 := hid (bag_mono hA4 (Nat.zero_le _)); have HL4 := hid (HA3.out.below hb4); have HX4 := hid (HX3.out.below hb4); have HY4 := hid (HY3.out.below hb4); have HB4 := hid (HB3.out.trans (hb4.mono HB3.out.size))
  clear hA4 hb4 HA3 HX3 HY3 HB3
  have hlb := less_bg HL.out HM.out; have hcb := com_bg (m := M) HL.out
  have hln : (lessP L M).length ≤ 1048576 := Nat.le_trans (keepP_len _ _) hLn
  have hcn : (comP L M).length ≤ 1048576 := Nat.le_trans (keepP_len _ _) hLn
  have HLB := hid hlb; have HCB := hid hcb; have HLN := hid hln; have HCN := hid hcn
  clear hlb hcb hln hcn
  go_wp2_with fail
  refine (join_gen B3 0 _ p3 c3 (lessP L M) (comP L M) w4 HL4.out HLB.out HLN.out HCB.out HCN.out (fun W hW => read_any B3 B4 0 _ p4 c4 (comP L M) W (HL4.out.below hW).1 (HA4.out.below hW) HCB.out HCN.out)).mono ?_
  rintro e w5 ⟨B5, p5, c5, rfl, hA5, _, hb5⟩
  rw [back_one HL.out HM.out] at hA5
  have HA5 := hid (bag_mono hA5 (Nat.zero_le _)); have HX5 := hid (HX4.out.below hb5); have HY5 := hid (HY4.out.below hb5); have HB5 := hid (HB4.out.trans (hb5.mono HB4.out.size))
  clear hA5 hb5 HA4 HL4 HX4 HY4 HB4
  go_wp2_with fail
  refine (join_gen Bx 0 _ px cx L M w5 HX5.out HL.out hLn HM.out hMn (fun W hW => read_any Bx By 0 _ py cy M W (HX5.out.below hW).1 (HY5.out.below hW) HM.out hMn)).mono ?_
  rintro e w6 ⟨B6, p6, c6, rfl, hA6, _, hb6⟩
  have HA6 := hid (bag_mono hA6 (Nat.zero_le _)); have HK6 := hid (HA5.out.below hb6); have HX6 := hid (HX5.out.below hb6); have HY6 := hid (HY5.out.below hb6); have HB6 := hid (HB5.out.trans (hb6.mono HB5.out.size))
  clear hA6 hb6 HA5 HX5 HY5 HB5
  have hjf := can_facts (app_pos HL.out HM.out)
  have hjs : sumN (canB (L ++ M)) ≤ 1048576 := by
    rw [hjf.2.2.1, sumN_app, HLS.out, HMS.out]
    omega
  have hjl := len_sum _ hjf.2.1
  have HJ : Hid (Bg (canB (L ++ M))) := hid ⟨hjf.1, hjf.2.1, by omega⟩
  have HJN : Hid ((canB (L ++ M)).length ≤ 1048576) := hid (by omega)
  clear hjf hjs hjl
  go_wp2_with fail
  refine (less_gen B6 0 _ p6 c6 (canB (L ++ M)) M w6 HA6.out HJ.out HJN.out HM.out hMn (fun W hW => read_any B6 By 0 _ py cy M W (HA6.out.below hW).1 (HY6.out.below hW) HM.out hMn)).mono ?_
  rintro e w7 ⟨B7, p7, c7, rfl, hA7, _, hb7⟩
  rw [back_two HL.out HM.out] at hA7
  have HA7 := hid (bag_mono hA7 (Nat.zero_le _)); have HK7 := hid (HK6.out.below hb7); have HX7 := hid (HX6.out.below hb7); have HB7 := hid (HB6.out.trans (hb7.mono HB6.out.size))
  clear hA7 hb7 HA6 HK6 HX6 HY6 HB6 HJ HJN
  have hws := within_self HL.out
  have HW : Hid (∀ W (B C : Nat) p c q d, BagAt 0 B W L p c → BagAt 0 C W L q d → Calls Try.prog 22 #[.pointer (some ⟨B, 0, none⟩), .pointer (some ⟨C, 0, none⟩)] W fun e w' => e = .returned (.bool true) ∧ Below W.heap.size W w') := hid fun W B C p c q d h1 h2 => by
    have h := within_any B C 0 0 p c q d L L W h1 h2 hLn HL.out hLn
    rw [hws] at h
    exact h
  have HLE : Hid (∀ W (B : Nat) p c, BagAt 0 B W L p c → Calls Try.prog 30 #[.pointer (some ⟨B, 0, none⟩)] W fun e w' => e = .returned (.int .i64 n0) ∧ Below W.heap.size W w') := hid fun W B p c h1 => by
    have h := len_bag B 0 p c L W h1 HL.out hLn
    rw [HLS.out] at h
    exact h
  clear hws
  go_wp2_with fail
  refine (HW.out w7 B5 Bx _ _ _ _ HK7.out HX7.out).mono ?_
  rintro e w8 ⟨rfl, hb8⟩
  have HA8 := hid (HA7.out.below hb8); have HK8 := hid (HK7.out.below hb8); have HX8 := hid (HX7.out.below hb8); have HB8 := hid (HB7.out.trans (hb8.mono HB7.out.size))
  clear hb8 HA7 HK7 HX7 HB7
  go_wp2_with fail
  refine (HW.out w8 Bx B5 _ _ _ _ HX8.out HK8.out).mono ?_
  rintro e w9 ⟨rfl, hb9⟩
  have HA9 := hid (HA8.out.below hb9); have HK9 := hid (HK8.out.below hb9); have HX9 := hid (HX8.out.below hb9); have HB9 := hid (HB8.out.trans (hb9.mono HB8.out.size))
  clear hb9 HA8 HK8 HX8 HB8
  go_wp2_with fail
  refine (HLE.out w9 B5 _ _ HK9.out).mono ?_
  rintro e w10 ⟨rfl, hb10⟩
  have HA10 := hid (HA9.out.below hb10); have HX10 := hid (HX9.out.below hb10); have HB10 := hid (HB9.out.trans (hb10.mono HB9.out.size))
  clear hb10 HA9 HK9 HX9 HB9
  go_wp2_with fail
  refine (HW.out w10 B7 Bx _ _ _ _ HA10.out HX10.out).mono ?_
  rintro e w11 ⟨rfl, hb11⟩
  have HA11 := hid (HA10.out.below hb11); have HX11 := hid (HX10.out.below hb11); have HB11 := hid (HB10.out.trans (hb11.mono HB10.out.size))
  clear hb11 HA10 HX10 HB10
  go_wp2_with fail
  refine (HW.out w11 Bx B7 _ _ _ _ HX11.out HA11.out).mono ?_
  rintro e w12 ⟨rfl, hb12⟩
  have HX12 := hid (HX11.out.below hb12); have HB12 := hid (HB11.out.trans (hb12.mono HB11.out.size))
  clear hb12 HA11 HX11 HB11
  go_wp2_with fail
  refine (HLE.out w12 Bx _ _ HX12.out).mono ?_
  rintro e w13 ⟨rfl, hb13⟩
  have HB13 := hid (HB12.out.trans (hb13.mono HB12.out.size))
  clear hb13
  go_wp2_with fail
  go_ret
  exact ⟨by first | rfl | simp, HB13.out⟩
end Go.Proofs.Ytlbmamkkbpjafaa
