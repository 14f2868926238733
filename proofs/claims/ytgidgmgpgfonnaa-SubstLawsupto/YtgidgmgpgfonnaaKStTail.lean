import Derived.Test.YtgidgmgpgfonnaaKStMrR
/- What symMerge does to a row of items, behind its turning. -/
namespace Go.Proofs.Ytgidgmgpgfonnaa
open Go.RowKit Go.Deep

theorem split_facts {A B : List Bk} (hA : Sd ltI A) (hB : Sd ltI B) (p q : Nat) (hp : p ≤ A.length) (hq : q ≤ B.length)
    (hlo : 0 < p → q < B.length → ∃ u v, A[p - 1]? = some u ∧ B[q]? = some v ∧ Le ltI u v) (hhi : p < A.length → 0 < q → ∃ u v, A[p]? = some u ∧ B[q - 1]? = some v ∧ ltI v u = true) :
    (∀ x ∈ A.drop p, ∀ y ∈ B.take q, ltI y x = true) ∧ (∀ x ∈ A.take p, ∀ y ∈ B.drop q, Le ltI x y) := by
  constructor
  · intro x hx y hy
    have h1 : p < A.length := by
      have := List.length_pos_of_mem hx
      rw [List.length_drop] at this
      omega
    have h2 : 0 < q := by
      have := List.length_pos_of_mem hy
      rw [List.length_take] at this
      omega
    obtain ⟨u, v, hu, hv, huv⟩ := hhi h1 h2
    obtain ⟨_, hu⟩ := List.getElem?_eq_some_iff.1 hu
    obtain ⟨hvl, hv⟩ := List.getElem?_eq_some_iff.1 hv
    have h3 := sd_low2 hB v q (fun hl _ => by rw [hv]; exact swoI.irr _) hq y hy
    have h4 := sd_high hA u p (fun hl => by rw [hu]; exact swoI.irr _) x hx
    exact swoI.lt_le (swoI.le_lt h3 huv) h4
  · intro x hx y hy
    have h1 : q < B.length := by
      have := List.length_pos_of_mem hy
      rw [List.length_drop] at this
      omega
    have h2 : 0 < p := by
      have := List.length_pos_of_mem hx
      rw [List.length_take] at this
      omega
    obtain ⟨u, v, hu, hv, huv⟩ := hlo h2 h1
    obtain ⟨_, hu⟩ := List.getElem?_eq_some_iff.1 hu
    obtain ⟨hvl, hv⟩ := List.getElem?_eq_some_iff.1 hv
    have h3 := sd_low2 hA u p (fun hl _ => by rw [hu]; exact swoI.irr _) hp x hx
    have h4 := sd_high hB v q (fun hl => by rw [hv]; exact swoI.irr _) y hy
    exact swoI.le_trans (swoI.le_trans h3 huv) h4
theorem rotate_at (g cap : Nat) (cmp : Value) (l X0 A B Y0 : List Bk) (a m b n : Nat) (w : World) (hl : l = X0 ++ A ++ B ++ Y0) (ha : X0.length = a) (hm : (X0 ++ A).length = m) (hb : (X0 ++ A ++ B).length = b) (hn : l.length = n) (hA : 0 < A.length) (hB : 0 < B.length) (hR : Rw bkCells w g cap l) (hz : l.length ≤ 2097152) :
    Calls Try.prog 93 #[.slice (some ⟨g, 0, none⟩) n cap, .int .i64 a, .int .i64 m, .int .i64 b, cmp] w fun e w' => e = .returned (.tuple #[]) ∧ So bkCells w g cap (X0 ++ B ++ A ++ Y0) w' := by
  subst hl ha hm hb hn
  exact rotate_any g cap cmp X0 A B Y0 w hA hB hR hz
/-- symMerge of stretches of so many items. -/
def SymK (k : Nat) : Prop := ∀ (g cap gb : Nat) (X A B Y : List Bk) (w : World), A.length + B.length ≤ k → 0 < A.length → 0 < B.length → Gb w g gb → Rw bkCells w g cap (X ++ A ++ B ++ Y) → (X ++ A ++ B ++ Y).length ≤ 2097152 → Sd ltI A → Sd ltI B → ∀ (a m b n : Nat), X.length = a → a + A.length = m → m + B.length = b → (X ++ A ++ B ++ Y).length = n →
  Calls Try.prog 82 #[.slice (some ⟨g, 0, none⟩) n cap, .int .i64 a, .int .i64 m, .int .i64 b, cmpV gb] w (MrgEnd w g cap X A B Y)
def rt : Code → Code
  | .seq _ b => b
  | c => c
set_option maxRecDepth 1000000 in
set_option maxHeartbeats 16000000 in
theorem mrg_tail (k : Nat) (IH : SymK k) (g cap gb : Nat) (X A1 A2 B1 B2 Y : List Bk) (w0 w1 : World) (a m b n mid N s E : Nat) (hg : Gb w0 g gb) (hso : So bkCells w0 g cap (X ++ (A1 ++ B1) ++ (A2 ++ B2) ++ Y) w1) (hn : n ≤ 2097152) (hX : X.length = a) (hY : Y.length = n - b) (hK : b - a ≤ k + 1) (hbn : b ≤ n) (hd1 : a + 1 ≤ mid) (hd2 : mid < b) (hN : mid + m = N) (hEb : E ≤ b) (hsm : s ≤ m) (has : a ≤ s) (hsd : s ≤ mid) (hEs : s + E = N) (hsA : Sd ltI (A1 ++ A2)) (hsB : Sd ltI (B1 ++ B2))
    (st : Stb ltI (A1 ++ A2 ++ (B1 ++ B2)) (A1 ++ B1 ++ (A2 ++ B2))) (le : ∀ x ∈ A1 ++ B1, ∀ y ∈ A2 ++ B2, Le ltI x y) (lA1 : A1.length = s - a) (lA2 : A2.length = m - s) (lB1 : B1.length = mid - s) (lB2 : B2.length = b - E) (u5 u6 u7 u8 u9 u10 u11 u12 u13 u14 u15 u16 u17 u19 u21 u22 u23 u25 u26 u27 u28 u29 u30 u31 u32 u33 u34 u35 u36 u37 u38 u39 u40 u41 u42 u43 u44 u45 u46 u47 u48 u49 u50 u51 u52 u53 u54 u55 u56 u57 u58 u59 u60 u61 u62 u63 u64 u65 u66 u67 u68 u69 u70 u71 u72 u73 u74 u75 u76 u77 u78 u79 u80 u81 u82 u83 u84 u85 u86 u87 u88 u89 u90 u91 u92 u93 u94 u95 u96 u97 u98 u99 u100 u101 u102 u103 u104 u105 u106 u107 u108 u109 u110 u111 u112 u113 u114 u115 u116 u117 u118 u119 u120 u121 u122 u123 u124 u125 u126 u127 u128 u129 u130 u131 u132 u133 u134 u135 u136 u137 u138 u139 u140 u141 u142 u143 u144 u145 u146 u147 u148 u149 u150 u151 u152 u153 u154 u155 u156 u157 u158 u159 u160 u161 u162 u163 u164 u165 u166 u167 u168 u169 u170 u171 u172 u173 u174 u175 u176 u177 u178 u179 u180 u181 u182 u183 u184 u185 u186 u187 u188 u189 u190 u191 u192 u193 u194 u195 u196 u197 u198 u199 u200 u201 u202 u203 u204 u205 u206 u207 u208 u209 u210 u211 u212 u213 u214 u215 u216 u217 u218 u219 : Value) :
    Code.wp Try.prog (rt (rt (rt (rt (rt (rt (rt (rt (rt (rt (Try.f82.body.getD .skip))))))))))) (bodyPost Try.prog Try.f82 (MrgEnd w0 g cap X (A1 ++ A2) (B1 ++ B2) Y)) ⟨#[(.slice (some ⟨g, 0, none⟩) n cap), (.int .i64 a), (.int .i64 m), (.int .i64 b), (cmpV gb), u5, u6, u7, u8, u9, u10, u11, u12, u13, u14, u15, u16, u17, (.int .i64 mid), u19, (.int .i64 s), u21, u22, u23, (.int .i64 E), u25, u26, u27, u28, u29, u30, u31, u32, u33, u34, u35, u36, u37, u38, u39, u40, u41, u42, u43, u44, u45, u46, u47, u48, u49, u50, u51, u52, u53, u54, u55, u56, u57, u58, u59, u60, u61, u62, u63, u64, u65, u66, u67, u68, u69, u70, u71, u72, u73, u74, u75, u76, u77, u78, u79, u80, u81, u82, u83, u84, u85, u86, u87, u88, u89, u90, u91, u92, u93, u94, u95, u96, u97, u98, u99, u100, u101, u102, u103, u104, u105, u106, u107, u108, u109, u110, u111, u112, u113, u114, u115, u116, u117, u118, u119, u120, u121, u122, u123, u124, u125, u126, u127, u128, u129, u130, u131, u132, u133, u134, u135, u136, u137, u138, u139, u140, u141, u142, u143, u144, u145, u146, u147, u148, u149, u150, u151, u152, u153, u154, u155, u156, u157, u158, u159, u160, u161, u162, u163, u164, u165, u166, u167, u168, u169, u170, u171, u172, u173, u174, u175, u176, u177, u178, u179, u180, u181, u182, u183, u184, u185, u186, u187, u188, u189, u190, u191, u192, u193, u194, u195, u196, u197, u198, u199, u200, u201, u202, u203, u204, u205, u206, u207, u208, u209, u210, u211, u212, u213, u214, u215, u216, u217, u218, u219], []⟩ w1 := by
  have HIH := hid IH; have HG := hid hg; have HSO1 := hid hso; have HG3 := hid (hg.fr hso.fr); have HX := hid hX; have HY := hid hY; have HK := hid hK; have HN := hid hN; have HEs := hid hEs
  have HSA := hid hsA; have HSB := hid hsB; have ST := hid st; have LE := hid le
  have LA1 := hid lA1; have LA2 := hid lA2; have LB1 := hid lB1; have LB2 := hid lB2
  clear IH hg hso hX hY hK hN hEs hsA hsB st le lA1 lA2 lB1 lB2
  conv => arg 2; whnf
  conv => arg 4; zeta
  go_upto_region 41 with fail
  go_cut [199] (fun v wd => v = .bool (decide (a < s ∧ s < mid)) ∧ wd = w1)
  case first =>
    by_cases h1 : a < s
    · by_cases h2 : s < mid
      · go_wp2_with fail
        go_meet
        exact ⟨by simp [h1, h2], rfl⟩
      · go_wp2_with fail
        go_meet
        exact ⟨by simp [h1, h2], rfl⟩
    · go_wp2_with fail
      go_meet
      exact ⟨by simp [h1], rfl⟩
  case rest =>
  obtain ⟨rfl, rfl⟩ := hcut
  rename World => w2
  go_upto_if 199 with fail
  go_cut [20] (fun v wd => v = .int .i64 s ∧ ∃ C1, Sd ltI C1 ∧ Stb ltI (A1 ++ B1) C1 ∧ So bkCells w0 g cap (X ++ C1 ++ (A2 ++ B2) ++ Y) wd)
  case first =>
    by_cases h1 : a < s ∧ s < mid
    · rw [decide_eq_true h1]
      have hrec := HIH.out g cap gb X A1 B1 (A2 ++ B2 ++ Y) w2 (by have := LA1.out; have := LB1.out; have := HK.out; omega) (by rw [LA1.out]; omega) (by rw [LB1.out]; omega) HG3.out (by have h := HSO1.out.row; simp only [List.append_assoc] at h ⊢; exact h) (by have := HEs.out; have := HN.out; simp only [List.length_append, HX.out, LA1.out, LA2.out, LB1.out, LB2.out, HY.out]; omega) (sd_parts HSA.out).1 (sd_parts HSB.out).1 a s mid n HX.out (by rw [LA1.out]; omega) (by rw [LB1.out]; omega) (by have := HEs.out; have := HN.out; simp only [List.length_append, HX.out, LA1.out, LA2.out, LB1.out, LB2.out, HY.out]; omega)
      have HREC := hid hrec
      clear hrec
      go_wp2_with fail
      refine HREC.out.mono ?_
      rintro e w3 ⟨rfl, C1, hc1, hc2, hs1⟩
      have HS1 := hid (HSO1.out.trans hs1); have HC1 := hid hc1; have HC2 := hid hc2
      clear hs1 hc1 hc2
      go_wp2_with fail
      go_meet
      refine ⟨rfl, C1, HC1.out, HC2.out, ?_⟩
      have h := HS1.out
      simp only [List.append_assoc] at h ⊢
      exact h
    · rw [decide_eq_false h1]
      go_wp2_with fail
      go_meet
      refine ⟨rfl, A1 ++ B1, ?_, Stb.refl _, HSO1.out⟩
      have := LA1.out; have := LB1.out
      by_cases h2 : a < s
      · rw [List.eq_nil_of_length_eq_zero (l := B1) (by omega), List.append_nil]
        exact (sd_parts HSA.out).1
      · rw [List.eq_nil_of_length_eq_zero (l := A1) (by omega), List.nil_append]
        exact (sd_parts HSB.out).1
  case rest =>
  obtain ⟨rfl, C1, hc1, hc2, hso2⟩ := hcut
  rename World => w4
  have HC1 := hid hc1; have HC2 := hid hc2; have HSO2 := hid hso2
  have HG4 := hid (HG.out.fr hso2.fr)
  have lC1 : C1.length = mid - a := by have := LA1.out; have := LB1.out; rw [← hc2.len, List.length_append]; omega
  have LC1 := hid lC1
  clear hc1 hc2 hso2 HSO1 HG3 lC1
  go_upto_region 43 with fail
  go_cut [213] (fun v wd => v = .bool (decide (mid < E ∧ E < b)) ∧ wd = w4)
  case first =>
    by_cases h1 : mid < E
    · by_cases h2 : E < b
      · go_wp2_with fail
        go_meet
        exact ⟨by simp [h1, h2], rfl⟩
      · go_wp2_with fail
        go_meet
        exact ⟨by simp [h1, h2], rfl⟩
    · go_wp2_with fail
      go_meet
      exact ⟨by simp [h1], rfl⟩
  case rest =>
  obtain ⟨rfl, rfl⟩ := hcut
  rename World => w5
  have hEs := HEs.out; have hN := HN.out
  by_cases h1 : mid < E ∧ E < b
  · rw [decide_eq_true h1]
    have hrec := HIH.out g cap gb (X ++ C1) A2 B2 Y w5 (by have := LA2.out; have := LB2.out; have := HK.out; omega) (by rw [LA2.out]; omega) (by rw [LB2.out]; omega) HG4.out (by have h := HSO2.out.row; simp only [List.append_assoc] at h ⊢; exact h) (by simp only [List.length_append, HX.out, LC1.out, LA2.out, LB2.out, HY.out]; omega) (sd_parts HSA.out).2.1 (sd_parts HSB.out).2.1 mid E b n (by rw [List.length_append, HX.out, LC1.out]; omega) (by rw [LA2.out]; omega) (by rw [LB2.out]; omega) (by simp only [List.length_append, HX.out, LC1.out, LA2.out, LB2.out, HY.out]; omega)
    have HREC := hid hrec
    clear hrec hEs hN
    go_wp2_with fail
    refine HREC.out.mono ?_
    rintro e w6 ⟨rfl, C2, hc1, hc2, hs1⟩
    have HS1 := hid (HSO2.out.trans hs1); have HD1 := hid hc1; have HD2 := hid hc2
    clear hs1 hc1 hc2
    go_wp2_with fail
    go_end0
    have hh := halves ST.out HC2.out HD2.out HC1.out HD1.out LE.out
    refine ⟨rfl, C1 ++ C2, hh.1, hh.2, ?_⟩
    have h := HS1.out
    simp only [List.append_assoc] at h ⊢
    exact h
  · rw [decide_eq_false h1]
    have hs2 : Sd ltI (A2 ++ B2) := by
      have := LA2.out; have := LB2.out
      by_cases h2 : mid < E
      · rw [List.eq_nil_of_length_eq_zero (l := B2) (by omega), List.append_nil]
        exact (sd_parts HSA.out).2.1
      · rw [List.eq_nil_of_length_eq_zero (l := A2) (by omega), List.nil_append]
        exact (sd_parts HSB.out).2.1
    have hh := halves ST.out HC2.out (Stb.refl (A2 ++ B2)) HC1.out hs2 LE.out
    have HH := hid hh
    clear hs2 hh hEs hN
    go_wp2_with fail
    go_end0
    refine ⟨rfl, C1 ++ (A2 ++ B2), HH.out.1, HH.out.2, ?_⟩
    have h := HSO2.out
    simp only [List.append_assoc] at h ⊢
    exact h
end Go.Proofs.Ytgidgmgpgfonnaa
