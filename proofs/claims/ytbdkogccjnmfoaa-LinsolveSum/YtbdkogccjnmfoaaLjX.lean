/- LinsolveSum: the vector filled up. -/
import Derived.Test.YtbdkogccjnmfoaaLjU
namespace Go.Proofs.Ytbdkogccjnmfoaa
open Go.RowKit Go.Shelf

set_option maxRecDepth 1000000 in
set_option maxHeartbeats 16000000 in
theorem sum_tail2c (p : Option Addr) (c : Nat) (a : List Int) (q : Option Addr) (d : Nat) (b : List Int) (x : Option Addr) (f : Nat) (u : List Int) (w w2 : World) (n N g base : Nat) (ql : Option Addr) (cl : Nat) (vs : List Vc) (HA2 : Hid (IntsAt w2 p a)) (HB2' : Hid (IntsAt w2 q b)) (hsa : a.length ≤ maxLen) (hsb : b.length ≤ maxLen) (HB2 : Hid (Below w.heap.size w w2)) (H0 : Hid (chkE a b = 0)) (HMN : Hid (IsMin (pbOf a b) (vs.map Vc.l))) (HX : Hid (XRow w2 base (.slice ql n cl) vs)) (HN : Hid (vs.length = n)) (hnb : n ≤ 13060694016) (HNE : Hid (a.length + b.length = N)) (hN10 : N ≤ 10) (HGG : Hid (w2.heap.size = g)) (l5 : a.length ≤ 5) (l6 : b.length ≤ 5) (V V' : List Int) (G G' z t B : Int) (pp : Nat) (W2 : World) (HFL : Hid (Fill a b V G pp B)) (HBL : Hid (Bl W2 g V')) (HBE : Hid (Below w2.heap.size w2 W2)) (HVL : Hid (V'.length = N)) (HVS : Hid (∀ y ∈ V', 0 ≤ y ∧ y ≤ 294)) (HGT : Hid (gapOf a b V' = t * gapOf a b V)) (HBZ : Hid (B * z = G')) (HT : Hid (G' = t * G)) (hz : 0 ≤ z ∧ z ≤ 1470) (hB0 : B ≠ 0) (_hB1 : (B == 0) = false) (_hB : 1 ≤ B ∧ B ≤ 6) (_hGb : 0 ≤ G' ∧ G' ≤ 8820) (u3 u4 u5 u6 u11 u14 u15 u16 u17 u18 u19 u20 u21 u22 u23 u24 u25 u26 u27 u28 u29 u30 u31 u32 u33 u34 u35 u36 u37 u38 u39 u40 u41 u42 u43 u44 u45 u46 u47 u48 u49 u50 u51 u52 u53 u54 u55 u56 u57 u58 u59 u60 u61 u62 u63 u64 u65 u66 u67 u68 u69 u70 u71 u72 u73 u74 u75 u76 u77 u78 u79 u80 u81 u82 u83 u84 u85 u86 u87 u88 u89 u90 u91 u92 u93 u94 u95 u96 u97 u98 u99 u100 u101 u102 u103 u104 u105 u106 u107 u108 u109 u110 u111 u112 u113 u114 u115 u116 u117 u118 u119 u120 u121 u122 u123 u124 u125 u126 u127 u128 u129 u130 u131 u132 u133 u134 u135 u136 u137 u138 u139 u140 u141 u142 u143 u144 u145 u146 u147 u148 u149 u150 u151 u152 u153 u154 u155 u156 u157 u158 u159 u160 u161 u162 u163 u164 u165 u166 u167 u168 u169 u170 u171 u172 u173 u174 u175 u176 u177 u178 u179 u180 u181 u182 u183 u184 u185 u186 u187 u188 u189 u190 u191 u192 u193 u194 u195 u196 u197 u198 u199 u200 u201 u202 u203 u204 u205 u206 u207 u208 u209 u210 u211 u212 u213 u214 u215 u216 u217 u218 u219 u220 u221 u222 u223 u224 u225 u226 u227 u228 u229 u230 u231 u232 u233 u234 u235 u236 u237 u238 u239 u240 u241 u242 u243 u244 u245 u246 u247 u248 u249 u250 u251 u252 : Value) :
    Code.wp Try.prog (rt (rt (rt (rt (rt (rt (rt (rt (rt (rt (rt (rt (Try.f8.body.getD .skip))))))))))))) (bodyPost Try.prog Try.f8 (fun e w' => e = .returned (.bool true) ∧ Below w.heap.size w w')) ⟨#[.slice p a.length c, .slice q b.length d, .slice x u.length f, u3, u4, u5, u6, .bool true, .slice ql n cl, .slice (some ⟨g, 0, none⟩) N N, .int .i64 G', u11, .int .i64 pp, .int .i64 B, u14, u15, u16, u17, u18, u19, u20, u21, u22, u23, u24, u25, u26, u27, u28, u29, u30, u31, u32, u33, u34, u35, u36, u37, u38, u39, u40, u41, u42, u43, u44, u45, u46, u47, u48, u49, u50, u51, u52, u53, u54, u55, u56, u57, u58, u59, u60, u61, u62, u63, u64, u65, u66, u67, u68, u69, u70, u71, u72, u73, u74, u75, u76, u77, u78, u79, u80, u81, u82, u83, u84, u85, u86, u87, u88, u89, u90, u91, u92, u93, u94, u95, u96, u97, u98, u99, u100, u101, u102, u103, u104, u105, u106, u107, u108, u109, u110, u111, u112, u113, u114, u115, u116, u117, u118, u119, u120, u121, u122, u123, u124, u125, u126, u127, u128, u129, u130, u131, u132, u133, u134, u135, u136, u137, u138, u139, u140, u141, u142, u143, u144, u145, u146, u147, u148, u149, u150, u151, u152, u153, u154, u155, u156, u157, u158, u159, u160, u161, u162, u163, u164, u165, u166, u167, u168, u169, u170, u171, u172, u173, u174, u175, u176, u177, u178, u179, u180, u181, u182, u183, u184, u185, u186, u187, u188, u189, u190, u191, u192, u193, u194, u195, u196, u197, u198, u199, u200, u201, u202, u203, u204, u205, u206, u207, u208, u209, u210, u211, u212, u213, u214, u215, u216, u217, u218, u219, u220, u221, u222, u223, u224, u225, u226, u227, u228, u229, u230, u231, u232, u233, u234, u235, u236, u237, u238, u239, u240, u241, u242, u243, u244, u245, u246, u247, u248, u249, u250, u251, u252], []⟩ W2 := by
  have hmax : maxLen = 9223372036854775807 := rfl
  conv => arg 2; whnf
  conv => arg 4; zeta
  have hq0 : G'.tdiv B = z := by rw [← HBZ.out]; exact Int.mul_tdiv_cancel_left z hB0
  have hq1 : IntKind.i64.wrap (G'.tdiv B) = z := by rw [hq0]; exact IntWalk.i64_in _ (by constructor <;> omega)
  go_upto_if 167 with fail
  go_cut [9] (fun vv wc => vv = .slice (some ⟨g, 0, none⟩) N N ∧ ∃ F, Bl wc g F ∧ Below w2.heap.size w2 wc ∧ Sol a b N F)
  case first =>
    by_cases hNp : 0 < N
    · have hpp : pp < N := by have := HFL.out.pl (by rw [HNE.out]; exact hNp); rw [HNE.out] at this; exact this
      have hpV : pp < V'.length := by rw [HVL.out]; exact hpp
      have hdone := HFL.out.done V' t z (by rw [HVL.out, HNE.out]) (by rw [HNE.out]; exact hNp) HGT.out (by rw [HBZ.out, HT.out])
      have hsm := HVS.out _ (List.getElem_mem hpV)
      have c9 : W2.drew.cell? ⟨g, pp, none⟩ = some (.int .i64 V'[pp]) := HBL.out.cell pp hpV
      have f9 : W2.drew.frozen? ⟨g, pp, none⟩ = false := HBL.out.free pp
      rw [getD_lt V' pp hpV] at hdone
      have HSO : Hid (Bl (W2.setCell ⟨g, pp, none⟩ (.int .i64 (V'[pp] + z))).drew g (V'.set pp (V'[pp] + z)) ∧ Below w2.heap.size w2 (W2.setCell ⟨g, pp, none⟩ (.int .i64 (V'[pp] + z))).drew ∧ Sol a b N (V'.set pp (V'[pp] + z))) := hid ⟨(HBL.out.set pp _).same rfl, (HBE.out.setCell (p := ⟨g, pp, none⟩) (by rw [← HGG.out]; exact Nat.le_refl _) _).drew, by rw [List.length_set]; exact HVL.out, set_small (fun y hy => by have := HVS.out y hy; omega) pp _ (by omega), hdone⟩
      have e4 : IntKind.i64.wrap (V'[pp] + z) = V'[pp] + z := IntWalk.i64_in _ (by constructor <;> omega)
      generalize V'.set pp (V'[pp] + z) = F at HSO
      obtain ⟨y, hy⟩ : ∃ y, V'[pp] = y := ⟨_, rfl⟩
      rw [hy] at c9 hsm HSO e4
      clear hdone hy
      go_wp2_with fail
      go_region
      all_goals
        go_wp2_with fail
        go_meet
        exact ⟨rfl, F, HSO.out⟩
    · have hN0 : N = 0 := by omega
      have HSO : Hid (Sol a b N V') := hid ⟨HVL.out, fun y hy => by have := HVS.out y hy; omega, by
        have h1 := HFL.out.no (by rw [HNE.out]; exact hN0)
        rw [HGT.out]
        rcases HFL.out.by' with ⟨_, h2⟩ | ⟨s, h2, _⟩
        · rw [h2, Int.mul_zero]
        · rw [h2, h1, Int.mul_zero, Int.mul_zero]⟩
      go_wp2_with fail
      go_meet
      exact ⟨rfl, V', HBL.out, HBE.out, HSO.out⟩
  case rest =>
    obtain ⟨rfl, F, hbF, hbe, hSol⟩ := hcut
    rename ∀ (a : Act) (w : World), Code.wp Try.prog _ _ a w → _ => hK
    refine hK _ _ ?_
    exact sum_tail3 p c a q d b x f u w w2 n N g base ql cl vs HA2 HB2' hsa hsb HB2 H0 HMN HX HN hnb HNE hN10 HGG l5 l6 F _ hbF hbe hSol _ _ _ _ _ _ _ _ _ _ _ _ _ _ _ _ _ _ _ _ _ _ _ _ _ _ _ _ _ _ _ _ _ _ _ _ _ _ _ _ _ _ _ _ _ _ _ _ _ _ _ _ _ _ _ _ _ _ _ _ _ _ _ _ _ _ _ _ _ _ _ _ _ _ _ _ _ _ _ _ _ _ _ _ _ _ _ _ _ _ _ _ _ _ _ _ _ _ _ _ _ _ _ _ _ _ _ _ _ _ _ _ _ _ _ _ _ _ _ _ _ _ _ _ _ _ _ _ _ _ _ _ _ _ _ _ _ _ _ _ _ _ _ _ _ _ _ _ _ _ _ _ _ _ _ _ _ _ _ _ _ _ _ _ _ _ _ _ _ _ _ _ _ _ _ _ _ _ _ _ _ _ _ _ _ _ _ _ _ _ _ _ _ _ _ _ _ _ _ _ _ _ _ _ _ _ _ _ _ _ _ _ _ _ _ _ _ _ _ _ _ _ _ _ _ _ _ _ _ _ _ _ _ _ _ _ _ _ _ _ _ _ _ _ _ _ _
end Go.Proofs.Ytbdkogccjnmfoaa
