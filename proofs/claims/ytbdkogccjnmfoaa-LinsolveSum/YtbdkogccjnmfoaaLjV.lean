/- LinsolveSum: how the vector becomes a solution. -/
import Derived.Test.YtbdkogccjnmfoaaLjX
namespace Go.Proofs.Ytbdkogccjnmfoaa
open Go.RowKit Go.Shelf

set_option maxRecDepth 1000000 in
set_option maxHeartbeats 16000000 in
theorem sum_tail2 (p : Option Addr) (c : Nat) (a : List Int) (q : Option Addr) (d : Nat) (b : List Int) (x : Option Addr) (f : Nat) (u : List Int) (w w2 : World) (n N g base : Nat) (ql : Option Addr) (cl : Nat) (vs : List Vc) (HA2 : Hid (IntsAt w2 p a)) (HB2' : Hid (IntsAt w2 q b)) (hsa : a.length ≤ maxLen) (hsb : b.length ≤ maxLen) (HB2 : Hid (Below w.heap.size w w2)) (H0 : Hid (chkE a b = 0)) (HMN : Hid (IsMin (pbOf a b) (vs.map Vc.l))) (HX : Hid (XRow w2 base (.slice ql n cl) vs)) (HN : Hid (vs.length = n)) (hnb : n ≤ 13060694016) (HNE : Hid (a.length + b.length = N)) (hN10 : N ≤ 10) (HGG : Hid (w2.heap.size = g)) (l5 : a.length ≤ 5) (l6 : b.length ≤ 5) (HK1 : Hid (Coe a)) (HK2 : Hid (Coe b)) (V : List Int) (W1 : World) (hF : Far a b w2 g N V W1) (u3 u4 u5 u6 u11 u12 u13 u14 u15 u16 u17 u18 u19 u20 u21 u22 u23 u24 u25 u26 u27 u28 u29 u30 u31 u32 u33 u34 u35 u36 u37 u38 u39 u40 u41 u42 u43 u44 u45 u46 u47 u48 u49 u50 u51 u52 u53 u54 u55 u56 u57 u58 u59 u60 u61 u62 u63 u64 u65 u66 u67 u68 u69 u70 u71 u72 u73 u74 u75 u76 u77 u78 u79 u80 u81 u82 u83 u84 u85 u86 u87 u88 u89 u90 u91 u92 u93 u94 u95 u96 u97 u98 u99 u100 u101 u102 u103 u104 u105 u106 u107 u108 u109 u110 u111 u112 u113 u114 u115 u116 u117 u118 u119 u120 u121 u122 u123 u124 u125 u126 u127 u128 u129 u130 u131 u132 u133 u134 u135 u136 u137 u138 u139 u140 u141 u142 u143 u144 u145 u146 u147 u148 u149 u150 u151 u152 u153 u154 u155 u156 u157 u158 u159 u160 u161 u162 u163 u164 u165 u166 u167 u168 u169 u170 u171 u172 u173 u174 u175 u176 u177 u178 u179 u180 u181 u182 u183 u184 u185 u186 u187 u188 u189 u190 u191 u192 u193 u194 u195 u196 u197 u198 u199 u200 u201 u202 u203 u204 u205 u206 u207 u208 u209 u210 u211 u212 u213 u214 u215 u216 u217 u218 u219 u220 u221 u222 u223 u224 u225 u226 u227 u228 u229 u230 u231 u232 u233 u234 u235 u236 u237 u238 u239 u240 u241 u242 u243 u244 u245 u246 u247 u248 u249 u250 u251 u252 : Value) :
    Code.wp Try.prog (rt (rt (rt (rt (rt (rt (rt (Try.f8.body.getD .skip)))))))) (bodyPost Try.prog Try.f8 (fun e w' => e = .returned (.bool true) ∧ Below w.heap.size w w')) ⟨#[.slice p a.length c, .slice q b.length d, .slice x u.length f, u3, u4, u5, u6, .bool true, .slice ql n cl, .slice (some ⟨g, 0, none⟩) N N, .int .i64 (gapOf a b V), u11, u12, u13, u14, u15, u16, u17, u18, u19, u20, u21, u22, u23, u24, u25, u26, u27, u28, u29, u30, u31, u32, u33, u34, u35, u36, u37, u38, u39, u40, u41, u42, u43, u44, u45, u46, u47, u48, u49, u50, u51, u52, u53, u54, u55, u56, u57, u58, u59, u60, u61, u62, u63, u64, u65, u66, u67, u68, u69, u70, u71, u72, u73, u74, u75, u76, u77, u78, u79, u80, u81, u82, u83, u84, u85, u86, u87, u88, u89, u90, u91, u92, u93, u94, u95, u96, u97, u98, u99, u100, u101, u102, u103, u104, u105, u106, u107, u108, u109, u110, u111, u112, u113, u114, u115, u116, u117, u118, u119, u120, u121, u122, u123, u124, u125, u126, u127, u128, u129, u130, u131, u132, u133, u134, u135, u136, u137, u138, u139, u140, u141, u142, u143, u144, u145, u146, u147, u148, u149, u150, u151, u152, u153, u154, u155, u156, u157, u158, u159, u160, u161, u162, u163, u164, u165, u166, u167, u168, u169, u170, u171, u172, u173, u174, u175, u176, u177, u178, u179, u180, u181, u182, u183, u184, u185, u186, u187, u188, u189, u190, u191, u192, u193, u194, u195, u196, u197, u198, u199, u200, u201, u202, u203, u204, u205, u206, u207, u208, u209, u210, u211, u212, u213, u214, u215, u216, u217, u218, u219, u220, u221, u222, u223, u224, u225, u226, u227, u228, u229, u230, u231, u232, u233, u234, u235, u236, u237, u238, u239, u240, u241, u242, u243, u244, u245, u246, u247, u248, u249, u250, u251, u252], []⟩ W1 := by
  have hmax : maxLen = 9223372036854775807 := rfl
  conv => arg 2; whnf
  conv => arg 4; zeta
  have HF := hid hF
  have hgb := gap_bound HK1.out HK2.out l5 l6 hF.small
  obtain ⟨gp, hgp⟩ : ∃ z, gapOf a b V = z := ⟨_, rfl⟩
  have HGV := hid hgp
  rw [hgp] at hgb ⊢
  clear hgp hF
  go_upto_block 2 with fail
  go_cut [10, 12, 13] (fun gv av bv wc => ∃ (G : Int) (pp : Nat) (B : Int), gv = .int .i64 G ∧ av = .int .i64 pp ∧ bv = .int .i64 B ∧ Fill a b V G pp B ∧ wc = W1)
  case first =>
    rcases Int.lt_trichotomy gp 0 with hg | hg | hg
    · by_cases ha0 : 0 < a.length
      · obtain ⟨ba, oa, rfl, hca⟩ := (HA2.out.below HF.out.bel).cells 0 ha0
        have hk := HK1.out.get 0 ha0
        have HFI : Hid (Fill a b V (-gp) 0 a[0]) := hid ⟨by omega, hk, fun h => h, fun h => by omega, .inr ⟨-1, by rw [HGV.out]; omega, by rw [if_pos ha0, getD_lt a 0 ha0]; omega⟩⟩
        have e1 : IntKind.i64.wrap (-gp) = -gp := IntWalk.i64_in _ (by constructor <;> omega)
        rw [Nat.add_zero] at hca
        obtain ⟨k, hk'⟩ : ∃ k, a[0] = k := ⟨_, rfl⟩
        rw [hk'] at hca HFI
        clear hk' hk
        go_wp2_with fail
        go_meet
        exact ⟨-gp, 0, k, rfl, rfl, rfl, HFI.out, rfl⟩
      · have ha1 : a.length = 0 := by omega
        go_wp2_with fail
        go_ret
        exact ⟨rfl, HB2.out.trans (HF.out.bel.mono HB2.out.size)⟩
    · subst hg
      have HFI : Hid (Fill a b V 0 0 1) := hid ⟨by omega, by omega, fun h => h, fun _ => rfl, .inl ⟨rfl, HGV.out⟩⟩
      go_wp2_with fail
      go_meet
      exact ⟨0, 0, 1, rfl, rfl, rfl, HFI.out, rfl⟩
    · by_cases hb0 : 0 < b.length
      · obtain ⟨ba, oa, rfl, hca⟩ := (HB2'.out.below HF.out.bel).cells 0 hb0
        have hk := HK2.out.get 0 hb0
        have HFI : Hid (Fill a b V gp a.length b[0]) := hid ⟨by omega, hk, fun h => by omega, fun h => by omega, .inr ⟨1, by rw [HGV.out]; omega, by rw [if_neg (Nat.lt_irrefl _), Nat.sub_self, getD_lt b 0 hb0]; omega⟩⟩
        rw [Nat.add_zero] at hca
        obtain ⟨k, hk'⟩ : ∃ k, b[0] = k := ⟨_, rfl⟩
        rw [hk'] at hca HFI
        clear hk' hk
        go_wp2_with fail
        go_meet
        exact ⟨gp, a.length, k, rfl, rfl, rfl, HFI.out, rfl⟩
      · have hb1 : b.length = 0 := by omega
        go_wp2_with fail
        go_ret
        exact ⟨rfl, HB2.out.trans (HF.out.bel.mono HB2.out.size)⟩
  case rest =>
    obtain ⟨G, pp, B, rfl, rfl, rfl, hFill, rfl⟩ := hcut
    have HFL := hid hFill
    have hG := hFill.G0; have hB := hFill.B1
    have hB0 : B ≠ 0 := by omega
    have hB1 : (B == 0) = false := by simpa using hB0
    obtain ⟨R, hR⟩ : ∃ R, G.tmod B = R := ⟨_, rfl⟩
    have hR0 : 0 ≤ R ∧ R ≤ 1470 := by
      rw [← hR, Int.tmod_eq_emod_of_nonneg hG.1]
      have h1 := Int.emod_nonneg G hB0
      have h2 := Int.emod_lt_of_pos G (show 0 < B by omega)
      omega
    have e1 : IntKind.i64.wrap (G.tmod B) = R := by rw [hR]; exact IntWalk.i64_in _ (by constructor <;> omega)
    have HR := hid hR
    rename World => W1
    clear hFill
    go_upto_block 3 with fail
    go_cut [10] (fun gv wc => gv = .int .i64 G ∧ ∃ V', Bl wc g V' ∧ Below w2.heap.size w2 wc ∧ (R = 0 → V' = V) ∧ (R ≠ 0 → V' = V.map (fun x => x * B)))
    case first =>
      go_wp2_with fail
      go_loopw [14] (fun iv wr => ∃ (j : Nat), j ≤ N ∧ iv = .int .i64 j ∧ (R = 0 → j = 0) ∧ Bl wr g (mulA V B j) ∧ Below w2.heap.size w2 wr) (fun iv _ => N - (intOf iv).toNat)
      case atStart => exact ⟨0, Nat.zero_le _, rfl, fun _ => rfl, by rw [mul_zero']; exact HF.out.bl, HF.out.bel⟩
      case round =>
        obtain ⟨j, hj, rfl, hj0, hbl, hbe⟩ := hrel
        have hVl : V.length = N := by rw [HF.out.len, HNE.out]
        by_cases hRz : R = 0
        · have hj00 := hj0 hRz
          subst hj00
          rw [mul_zero'] at hbl
          have HBL := hid hbl; have HBE := hid hbe
          have HRZ := hid hRz
          have hRn : (R != 0) = false := by simpa using hRz
          clear hbl hbe hj0 hRz hVl
          by_cases hlt : 0 < N
          · go_wp2_with fail
            go_meet
            exact ⟨rfl, V, HBL.out, HBE.out, fun _ => rfl, fun h => absurd HRZ.out h⟩
          · have hN0 : N = 0 := by omega
            go_wp2_with fail
            go_meet
            exact ⟨rfl, V, HBL.out, HBE.out, fun _ => rfl, fun h => absurd HRZ.out h⟩
        · have hRn : (R != 0) = true := by simpa using hRz
          by_cases hlt : j < N
          · have hjV : j < V.length := by omega
            have hml := mul_len V B j (by omega)
            have c9 := hbl.cell j (by omega)
            have f9 := hbl.free j
            have hg9 := mul_get V B j hjV
            rw [List.getElem?_eq_getElem (by omega)] at hg9
            rw [Option.some.inj hg9] at c9
            have hst := mul_step V B j hjV
            have hsm := HF.out.small _ (List.getElem_mem hjV)
            obtain ⟨y, hy⟩ : ∃ y, V[j] = y := ⟨_, rfl⟩
            rw [hy] at c9 hst hsm
            have h1 : 0 ≤ y * B := Int.mul_nonneg hsm.1 (by omega)
            have h2 : y * B ≤ 49 * 6 := Int.mul_le_mul hsm.2 hB.2 (by omega) (by decide)
            obtain ⟨m, hm⟩ : ∃ m, y * B = m := ⟨_, rfl⟩
            rw [hm] at hst h1 h2
            have e2 : IntKind.i64.wrap (y * B) = m := by rw [hm]; exact IntWalk.i64_in _ (by constructor <;> omega)
            have HS : Hid (Bl (World.setCell _ ⟨g, j, none⟩ (.int .i64 m)) g (mulA V B (j + 1)) ∧ Below w2.heap.size w2 (World.setCell _ ⟨g, j, none⟩ (.int .i64 m))) := hid ⟨by rw [← hst]; exact hbl.set j m, hbe.setCell (p := ⟨g, j, none⟩) (by rw [← HGG.out]; exact Nat.le_refl _) _⟩
            have HRZ := hid hRz
            clear hbl hbe hj0 hRz hVl hjV hml hg9 hst hsm hy hm
            go_wp2_with fail
            go_roundw
            case rel => exact ⟨j + 1, by omega, by go_num, fun h => absurd h HRZ.out, HS.out⟩
            case measure => simp [intOf]; omega
          · have hjN : j = N := by omega
            have HBL : Hid (Bl _ g (V.map (fun x => x * B))) := hid (by rw [← mul_all, hVl, ← hjN]; exact hbl)
            have HBE := hid hbe
            have HRZ := hid hRz
            clear hbl hbe hj0 hRz hVl
            go_wp2_with fail
            go_meet
            exact ⟨rfl, _, HBL.out, HBE.out, fun h => absurd h HRZ.out, fun _ => rfl⟩
    case rest =>
      obtain ⟨rfl, V', hbl, hbe, hv1, hv2⟩ := hcut
      rename World => W2
      have hV'l : V'.length = N := by
        by_cases h : R = 0
        · rw [hv1 h, HF.out.len, HNE.out]
        · rw [hv2 h, List.length_map, HF.out.len, HNE.out]
      have hV's : ∀ y ∈ V', 0 ≤ y ∧ y ≤ 294 := by
        by_cases h : R = 0
        · rw [hv1 h]; intro y hy; have := HF.out.small y hy; omega
        · rw [hv2 h]
          intro y hy
          obtain ⟨y0, hy0, rfl⟩ := List.mem_map.1 hy
          have := HF.out.small y0 hy0
          exact ⟨Int.mul_nonneg this.1 (by omega), Int.le_trans (Int.mul_le_mul this.2 hB.2 (by omega) (by decide)) (by decide)⟩
      obtain ⟨G', z, t, hG1, hG2, hBz, hGt, hgt, hz⟩ : ∃ (G' z t : Int), (R = 0 → G' = G) ∧ (R ≠ 0 → G' = G * B) ∧ B * z = G' ∧ G' = t * G ∧ gapOf a b V' = t * gapOf a b V ∧ 0 ≤ z ∧ z ≤ 1470 := by
        by_cases h : R = 0
        · have hd : B ∣ G := Int.dvd_of_emod_eq_zero (by rw [← Int.tmod_eq_emod_of_nonneg hG.1, HR.out, h])
          have h1 := Int.ediv_nonneg hG.1 (show 0 ≤ B by omega)
          have h2 := Int.ediv_le_self (a := G) B hG.1
          exact ⟨G, G / B, 1, fun _ => rfl, fun h' => absurd h h', Int.mul_ediv_cancel' hd, by omega, by rw [hv1 h]; omega, h1, by omega⟩
        · exact ⟨G * B, G, B, fun h' => absurd h' h, fun _ => rfl, Int.mul_comm _ _, Int.mul_comm _ _, by rw [hv2 h, gap_scale], hG.1, hG.2⟩
      have HBL := hid hbl; have HBE := hid hbe; have HVL := hid hV'l; have HVS := hid hV's; have HGT := hid hgt; have HBZ := hid hBz; have HT := hid hGt
      have HG1 := hid hG1; have HG2 := hid hG2
      have hGb : 0 ≤ G' ∧ G' ≤ 8820 := by
        rw [← hBz]
        exact ⟨Int.mul_nonneg (by omega) hz.1, Int.le_trans (Int.mul_le_mul hB.2 hz.2 hz.1 (by decide)) (by decide)⟩
      clear hbl hbe hv1 hv2 hV'l hV's hgt hBz hGt hG1 hG2
      go_upto_if 161 with fail
      go_cut [10] (fun gv wc => gv = .int .i64 G' ∧ wc = W2)
      case first =>
        by_cases h : R = 0
        · have hRn : (R != 0) = false := by simpa using h
          have HE := hid (HG1.out h)
          clear h
          go_wp2_with fail
          go_meet
          exact ⟨by rw [HE.out], rfl⟩
        · have hRn : (R != 0) = true := by simpa using h
          have e3 : IntKind.i64.wrap (G * B) = G' := by rw [← HG2.out h]; exact IntWalk.i64_in _ (by constructor <;> omega)
          clear h
          go_wp2_with fail
          go_meet
          exact ⟨rfl, rfl⟩
      case rest =>
        obtain ⟨rfl, rfl⟩ := hcut
        rename ∀ (a : Act) (w : World), Code.wp Try.prog _ _ a w → _ => hK
        refine hK _ _ ?_
        exact sum_tail2c p c a q d b x f u w w2 n N g base ql cl vs HA2 HB2' hsa hsb HB2 H0 HMN HX HN hnb HNE hN10 HGG l5 l6 V V' G G' z t B pp _ HFL HBL HBE HVL HVS HGT HBZ HT hz hB0 hB1 hB hGb _ _ _ _ _ _ _ _ _ _ _ _ _ _ _ _ _ _ _ _ _ _ _ _ _ _ _ _ _ _ _ _ _ _ _ _ _ _ _ _ _ _ _ _ _ _ _ _ _ _ _ _ _ _ _ _ _ _ _ _ _ _ _ _ _ _ _ _ _ _ _ _ _ _ _ _ _ _ _ _ _ _ _ _ _ _ _ _ _ _ _ _ _ _ _ _ _ _ _ _ _ _ _ _ _ _ _ _ _ _ _ _ _ _ _ _ _ _ _ _ _ _ _ _ _ _ _ _ _ _ _ _ _ _ _ _ _ _ _ _ _ _ _ _ _ _ _ _ _ _ _ _ _ _ _ _ _ _ _ _ _ _ _ _ _ _ _ _ _ _ _ _ _ _ _ _ _ _ _ _ _ _ _ _ _ _ _ _ _ _ _ _ _ _ _ _ _ _ _ _ _ _ _ _ _ _ _ _ _ _ _ _ _ _ _ _ _ _ _ _ _ _ _ _ _ _ _ _ _ _ _ _ _ _ _ _ _ _ _ _ _ _ _ _
end Go.Proofs.Ytbdkogccjnmfoaa
