/- LinsolveSum: its last part: solved, expressed, and back. -/
import Derived.Test.YtbdkogccjnmfoaaLjT
namespace Go.Proofs.Ytbdkogccjnmfoaa
open Go.RowKit Go.Shelf

set_option maxRecDepth 1000000 in
set_option maxHeartbeats 16000000 in
theorem sum_tail3 (p : Option Addr) (c : Nat) (a : List Int) (q : Option Addr) (d : Nat) (b : List Int) (x : Option Addr) (f : Nat) (u : List Int) (w w2 : World) (n N g base : Nat) (ql : Option Addr) (cl : Nat) (vs : List Vc) (HA2 : Hid (IntsAt w2 p a)) (HB2' : Hid (IntsAt w2 q b)) (_ : a.length ≤ maxLen) (_ : b.length ≤ maxLen) (HB2 : Hid (Below w.heap.size w w2)) (H0 : Hid (chkE a b = 0)) (HMN : Hid (IsMin (pbOf a b) (vs.map Vc.l))) (HX : Hid (XRow w2 base (.slice ql n cl) vs)) (HN : Hid (vs.length = n)) (hnb : n ≤ 13060694016) (HNE : Hid (a.length + b.length = N)) (hN10 : N ≤ 10) (_ : Hid (w2.heap.size = g)) (_ : a.length ≤ 5) (_ : b.length ≤ 5) (F : List Int) (W3 : World) (hbF : Bl W3 g F) (hbe : Below w2.heap.size w2 W3) (hSol : Sol a b N F) (u3 u4 u5 u6 u10 u11 u12 u13 u14 u15 u16 u17 u18 u19 u20 u21 u22 u23 u24 u25 u26 u27 u28 u29 u30 u31 u32 u33 u34 u35 u36 u37 u38 u39 u40 u41 u42 u43 u44 u45 u46 u47 u48 u49 u50 u51 u52 u53 u54 u55 u56 u57 u58 u59 u60 u61 u62 u63 u64 u65 u66 u67 u68 u69 u70 u71 u72 u73 u74 u75 u76 u77 u78 u79 u80 u81 u82 u83 u84 u85 u86 u87 u88 u89 u90 u91 u92 u93 u94 u95 u96 u97 u98 u99 u100 u101 u102 u103 u104 u105 u106 u107 u108 u109 u110 u111 u112 u113 u114 u115 u116 u117 u118 u119 u120 u121 u122 u123 u124 u125 u126 u127 u128 u129 u130 u131 u132 u133 u134 u135 u136 u137 u138 u139 u140 u141 u142 u143 u144 u145 u146 u147 u148 u149 u150 u151 u152 u153 u154 u155 u156 u157 u158 u159 u160 u161 u162 u163 u164 u165 u166 u167 u168 u169 u170 u171 u172 u173 u174 u175 u176 u177 u178 u179 u180 u181 u182 u183 u184 u185 u186 u187 u188 u189 u190 u191 u192 u193 u194 u195 u196 u197 u198 u199 u200 u201 u202 u203 u204 u205 u206 u207 u208 u209 u210 u211 u212 u213 u214 u215 u216 u217 u218 u219 u220 u221 u222 u223 u224 u225 u226 u227 u228 u229 u230 u231 u232 u233 u234 u235 u236 u237 u238 u239 u240 u241 u242 u243 u244 u245 u246 u247 u248 u249 u250 u251 u252 : Value) :
    Code.wp Try.prog (rt (rt (rt (rt (rt (rt (rt (rt (rt (rt (rt (rt (rt (Try.f8.body.getD .skip)))))))))))))) (bodyPost Try.prog Try.f8 (fun e w' => e = .returned (.bool true) ∧ Below w.heap.size w w')) ⟨#[.slice p a.length c, .slice q b.length d, .slice x u.length f, u3, u4, u5, u6, .bool true, .slice ql n cl, .slice (some ⟨g, 0, none⟩) N N, u10, u11, u12, u13, u14, u15, u16, u17, u18, u19, u20, u21, u22, u23, u24, u25, u26, u27, u28, u29, u30, u31, u32, u33, u34, u35, u36, u37, u38, u39, u40, u41, u42, u43, u44, u45, u46, u47, u48, u49, u50, u51, u52, u53, u54, u55, u56, u57, u58, u59, u60, u61, u62, u63, u64, u65, u66, u67, u68, u69, u70, u71, u72, u73, u74, u75, u76, u77, u78, u79, u80, u81, u82, u83, u84, u85, u86, u87, u88, u89, u90, u91, u92, u93, u94, u95, u96, u97, u98, u99, u100, u101, u102, u103, u104, u105, u106, u107, u108, u109, u110, u111, u112, u113, u114, u115, u116, u117, u118, u119, u120, u121, u122, u123, u124, u125, u126, u127, u128, u129, u130, u131, u132, u133, u134, u135, u136, u137, u138, u139, u140, u141, u142, u143, u144, u145, u146, u147, u148, u149, u150, u151, u152, u153, u154, u155, u156, u157, u158, u159, u160, u161, u162, u163, u164, u165, u166, u167, u168, u169, u170, u171, u172, u173, u174, u175, u176, u177, u178, u179, u180, u181, u182, u183, u184, u185, u186, u187, u188, u189, u190, u191, u192, u193, u194, u195, u196, u197, u198, u199, u200, u201, u202, u203, u204, u205, u206, u207, u208, u209, u210, u211, u212, u213, u214, u215, u216, u217, u218, u219, u220, u221, u222, u223, u224, u225, u226, u227, u228, u229, u230, u231, u232, u233, u234, u235, u236, u237, u238, u239, u240, u241, u242, u243, u244, u245, u246, u247, u248, u249, u250, u251, u252], []⟩ W3 := by
  have hmax : maxLen = 9223372036854775807 := rfl
  conv => arg 2; whnf
  conv => arg 4; zeta
  have hFl := hSol.1
  have hsB : solB a b F = true := by
    unfold solB
    have h1 := hSol.2.2
    unfold gapOf at h1
    rw [(cnt_iff F).2 hSol.2.1]
    simp [H0.out, HNE.out, hFl]
    omega
  have HSV := hid (solves_any p c a q d b g N F W3 (HA2.out.below hbe) (HB2'.out.below hbe) hbF (by omega) (by omega))
  rw [hFl, hsB] at HSV
  have HSO := hid hSol; have HBF := hid hbF; have HBE := hid hbe; have HFL' := hid hFl
  clear hSol hbF hbe hsB hFl
  go_wp2_with fail
  refine HSV.out.mono ?_
  rintro e W4 ⟨rfl, hb4⟩
  have hX4 := HX.out.below (HBE.out.trans (hb4.mono HBE.out.size))
  have hF4 := HBF.out.same (hb4.block g HBF.out.lt)
  have hlsn : (vs.map (fun x => toI x.l)).length = n := by rw [List.length_map, HN.out]
  have hsolv : ∀ u ∈ vs.map (fun x => toI x.l), Sol a b N u := fun u hu => by
    obtain ⟨x, hx, rfl⟩ := List.mem_map.1 hu
    obtain ⟨x1, y1, e1, m⟩ := (HMN.out.mem H0.out x.l).1 (List.mem_map.2 ⟨x, hx, rfl⟩)
    rw [e1, ← HNE.out]
    exact (min_sol H0.out m).1
  have hgre := greedy H0.out HMN.out F (by rw [HNE.out]; exact HSO.out)
  rw [List.map_map] at hgre
  have hR4 := hX4.rows (by rw [HN.out]; omega)
  have HEX := hid (express_any ql cl (vs.map (fun x => toI x.l)) (some ⟨g, 0, none⟩) N F W4 hR4 (hF4.ints (by rw [HFL'.out]; omega)) (by omega) (by rw [HFL'.out]; omega))
  obtain ⟨ls, hls⟩ : ∃ ls, vs.map (fun x => toI x.l) = ls := ⟨_, rfl⟩
  have hgre' : ∀ x ∈ (exprA ls F).2, x = 0 := by rw [← hls]; exact hgre
  rw [hls] at HEX hlsn hsolv hR4
  rw [hlsn, HFL'.out] at HEX
  have hok : exprOk ls F := ⟨(cnt_iff F).2 HSO.out.2.1, fun u hu => ⟨(hsolv u hu).1.trans HFL'.out.symm, (cnt_iff u).2 (hsolv u hu).2.1⟩⟩
  have hno : (exprA ls F).2.any leftQ = false := List.any_eq_false.2 (fun x hx => by rw [hgre' x hx]; decide)
  have HB4 : Hid (Below w2.heap.size w2 W4) := hid (HBE.out.trans (hb4.mono HBE.out.size))
  have HF4 := hid hF4; have HLN := hid hlsn; have HSL := hid hsolv; have HGR := hid hgre'; have HOK := hid hok; have HNO := hid hno; have HR4 := hid hR4
  clear hb4 hX4 hF4 hlsn hsolv hgre hgre' hok hno hR4 hls HSV HBF HBE
  go_wp2_with fail
  refine HEX.out.mono ?_
  rintro e W5 ⟨hb5, (⟨hbad, _⟩ | ⟨_, gn, rfl, hbn, hgn, _⟩)⟩
  · exact absurd HOK.out hbad
  rw [HNO.out, HLN.out]
  have HB5 : Hid (Below w2.heap.size w2 W5) := hid (HB4.out.trans (hb5.mono HB4.out.size))
  have HF5 := hid (HF4.out.same (hb5.block g HF4.out.lt))
  have HR5 := hid (HR4.out.below hb5)
  have HBN := hid hbn
  have hnn : ((n : Int) != (n : Int)) = false := by simp
  have mk1 := make_ints N (by omega) W5
  clear hb5 hbn hgn HEX HR4 HF4 HB4
  have HZ : Hid (Bl (W5.alloc (.cells (madeCells #[.int .i64 0] N) 3)) W5.heap.size (subV F (exprA (ls.take 0) F).2) ∧ Below W5.heap.size W5 (W5.alloc (.cells (madeCells #[.int .i64 0] N) 3))) := hid ⟨by
    rw [List.take_zero, show (exprA [] F).2 = F from rfl, sub_self F F rfl, HFL'.out]
    exact ⟨_, by rw [World.alloc_heap_new, made_zero], fun i hi => cAll_get _ i hi⟩, alloc_below0 W5 _⟩
  go_upto_region 39 with fail
  obtain ⟨gb, hgb2⟩ : ∃ g, W5.heap.size = g := ⟨_, rfl⟩
  have HGB := hid hgb2
  rw [hgb2] at HZ ⊢
  generalize W5.alloc (.cells (madeCells #[.int .i64 0] N) 3) = W6 at HZ ⊢
  clear mk1 hgb2
  go_wp2_with fail
  go_loopw [19] (fun iv wr => ∃ i : Nat, i ≤ n ∧ iv = .int .i64 i ∧ Bl wr gb (subV F (exprA (ls.take i) F).2) ∧ Below W5.heap.size W5 wr) (fun iv _ => n - (intOf iv).toNat)
  case atStart => exact ⟨0, Nat.zero_le _, rfl, HZ.out.1, by rw [HGB.out]; exact HZ.out.2⟩
  case round =>
    obtain ⟨i, hi, rfl, hbl, hbe⟩ := hrel
    rename World => wr
    by_cases hlt : i < n
    · have hil : i < ls.length := by rw [HLN.out]; exact hlt
      obtain ⟨hq1, hq2, _, _⟩ := expr_ok (ls.take i) F HSO.out.2.1 (fun u hu => ⟨(HSL.out u (List.mem_of_mem_take hu)).1.trans HFL'.out.symm, (HSL.out u (List.mem_of_mem_take hu)).2.1⟩)
      have hst := expr_step ls F i hil
      have hu := HSL.out _ (List.getElem_mem hil)
      have hni := expr_get ls F i hil
      have hnl : i < (exprA ls F).1.length := (List.getElem?_eq_some_iff.1 hni).1
      rw [List.getElem?_eq_getElem hnl] at hni
      have hni' := Option.some.inj hni
      have HNI : Hid (W5.cell? ⟨gn, i, none⟩ = some (.int .i64 (fitN ls[i] (exprA (ls.take i) F).2))) := hid (by rw [← hni']; exact HBN.out.cell i hnl)
      obtain ⟨L, hL⟩ : ∃ L, (exprA (ls.take i) F).2 = L := ⟨_, rfl⟩
      rw [hL] at hst HNI hq1 hq2 hbl
      have hfit := fit_ok hu.2.1 hq1
      obtain ⟨bl', ol, pu, cu, hql, hcu, hIu⟩ := HR5.out.cells i hil
      subst hql
      obtain ⟨U, hU⟩ : ∃ U, ls[i] = U := ⟨_, rfl⟩
      rw [hU] at hst HNI hfit hu hcu hIu
      obtain ⟨m, hm⟩ : ∃ m, fitN U L = m := ⟨_, rfl⟩
      rw [hm] at hst HNI hfit
      rw [hu.1] at hcu
      have hLN : L.length = N := by rw [hq2, HFL'.out]
      have HST := hid hst.2; have HU' := hid hu; have HFT := hid hfit; have HCL := hid hq1; have HLL := hid hLN; have HCU := hid hcu; have HIU := hid hIu
      have HBL0 : Hid (Bl wr gb (subV F (lefA m U L 0)) ∧ Below W5.heap.size W5 wr) := hid ⟨by rw [lef_zero]; exact hbl, hbe⟩
      clear hbl hbe hq1 hq2 hst hu hni hni' hnl hL hfit hcu hIu hU hm hLN
      go_wp2_with fail
      go_loopw [20] (fun kv wx => ∃ k : Nat, k ≤ N ∧ kv = .int .i64 k ∧ Bl wx gb (subV F (lefA m U L k)) ∧ Below W5.heap.size W5 wx) (fun kv _ => N - (intOf kv).toNat)
      case atStart => exact ⟨0, Nat.zero_le _, rfl, HBL0.out⟩
      case round =>
        obtain ⟨k, hk, rfl, hbl, hbe⟩ := hrel
        rename World => wx
        have hUN : U.length = N := HU'.out.1
        have hLN : L.length = N := HLL.out
        have hFN : F.length = N := HFL'.out
        by_cases hkl : k < N
        · have c1 := below_cell hbe _ _ HCU.out
          obtain ⟨b3, o3, rfl, c2⟩ := (HIU.out.below hbe).cells k (by omega)
          have c3 := below_cell hbe _ _ HNI.out
          have hsl := sub_len F (lefA m U L k) (by rw [lef_len m U L (by omega) k (by omega)]; omega)
          have hlg := lef_get m U L (by omega) k (by omega)
          have hll := lef_len m U L (by omega) k (by omega)
          rw [List.getElem?_eq_getElem (by omega)] at hlg
          have hsg := sub_get F (lefA m U L k) k (by omega) (by omega)
          rw [List.getElem?_eq_getElem (by omega), Option.some.inj hlg] at hsg
          have c4 := hbl.cell k (by omega)
          rw [Option.some.inj hsg] at c4
          have f4 := hbl.free k
          have h1 := HFT.out.2.2 k (by omega) (by omega)
          have h2 := HU'.out.2.1.get k (by omega)
          have h3 := HCL.out.get k (by omega)
          have h4 := HSO.out.2.1.get k (by omega)
          have h5 := Int.mul_nonneg HFT.out.1 h2.1
          have hset : (subV F (lefA m U L k)).set k (F[k] - (L[k] - m * U[k])) = subV F (lefA m U L (k + 1)) := by
            rw [← lef_step m U L (by omega) k (by omega) (by omega), sub_set F _ k _ (by omega) (by omega)]
          obtain ⟨y, hy⟩ : ∃ y, U[k] = y := ⟨_, rfl⟩
          obtain ⟨l, hl⟩ : ∃ l, L[k] = l := ⟨_, rfl⟩
          obtain ⟨t2, ht2⟩ : ∃ t, F[k] = t := ⟨_, rfl⟩
          rw [hy] at c2 h1 h2 h5 hset
          rw [hl] at c4 h1 h3 hset
          rw [ht2] at c4 h4 hset
          obtain ⟨mm, hmm⟩ : ∃ mm, m * y = mm := ⟨_, rfl⟩
          rw [hmm] at h1 h5 hset
          have e1 : IntKind.i64.wrap (m * y) = mm := by rw [hmm]; exact IntWalk.i64_in _ (by constructor <;> omega)
          have e2 : IntKind.i64.wrap (t2 - l + mm) = t2 - l + mm := IntWalk.i64_in _ (by constructor <;> omega)
          rw [show t2 - (l - mm) = t2 - l + mm by omega] at hset
          have HS : Hid (Bl (wx.setCell ⟨gb, k, none⟩ (.int .i64 (t2 - l + mm))).drew gb (subV F (lefA m U L (k + 1))) ∧ Below W5.heap.size W5 (wx.setCell ⟨gb, k, none⟩ (.int .i64 (t2 - l + mm))).drew) := hid ⟨by rw [← hset]; exact (hbl.set k _).same rfl, (hbe.setCell (p := ⟨gb, k, none⟩) (by rw [← HGB.out]; exact Nat.le_refl _) _).drew⟩
          have d1 : wx.drew.cell? ⟨bl', ol + i, none⟩ = some (.slice (some ⟨b3, o3, none⟩) N cu) := c1
          have d2 : wx.drew.cell? ⟨b3, o3 + k, none⟩ = some (.int .i64 y) := c2
          have d3 : wx.drew.cell? ⟨gn, i, none⟩ = some (.int .i64 m) := c3
          have d4 : wx.drew.cell? ⟨gb, k, none⟩ = some (.int .i64 (t2 - l)) := c4
          have f5 : wx.drew.frozen? ⟨gb, k, none⟩ = false := f4
          clear hbl hbe hsl hlg hll hsg hset hy hl ht2 hmm
          go_wp2_with fail
          go_region_with (fail)
          all_goals
            go_wp2_with fail
            go_roundw
            case rel => exact ⟨k + 1, by omega, by go_num, HS.out⟩
            case measure => simp [intOf]; omega
        · have hkN : k = N := by omega
          have HS : Hid (Bl wx gb (subV F (exprA (ls.take (i + 1)) F).2) ∧ Below W5.heap.size W5 wx) := hid ⟨by rw [HST.out, ← lef_all m U L (by omega), hLN, ← hkN]; exact hbl, hbe⟩
          clear hbl hbe
          go_wp2_with fail
          go_roundw
          case rel => exact ⟨i + 1, by omega, by go_num, HS.out⟩
          case measure => simp [intOf]; omega
    · have hin : i = n := by omega
      have hbF : Bl wr gb F := by
        have h1 := hbl
        rw [List.take_of_length_le (by rw [HLN.out]; omega), sub_none F _ (expr_ok ls F HSO.out.2.1 (fun u hu => ⟨(HSL.out u hu).1.trans HFL'.out.symm, (HSL.out u hu).2.1⟩)).2.1 HGR.out] at h1
        exact h1
      have HSM := hid (same_any (some ⟨gb, 0, none⟩) N F (some ⟨g, 0, none⟩) N F wr (hbF.ints (by rw [HFL'.out]; omega)) ((HF5.out.same (hbe.block g HF5.out.lt)).ints (by rw [HFL'.out]; omega)))
      rw [HFL'.out, show decide (F = F) = true by simp] at HSM
      have HBW : Hid (Below w.heap.size w wr) := hid (HB2.out.trans ((HB5.out.trans (hbe.mono HB5.out.size)).mono HB2.out.size))
      clear hbl hbe hbF hin
      go_wp2_with fail
      refine HSM.out.mono ?_
      rintro e W9 ⟨rfl, hb9⟩
      have HB9 := hid (HBW.out.trans (hb9.mono HBW.out.size))
      clear hb9
      go_wp2_with fail
      go_ret
      exact ⟨rfl, HB9.out⟩
end Go.Proofs.Ytbdkogccjnmfoaa
