import Derived.Test.YtgidgmgpgfonnaaGreatKStTail
/- What symMerge does to a row of items. -/
namespace Go.Proofs.YtgidgmgpgfonnaaGreat
open Go.RowKit Go.Deep

set_option maxRecDepth 100000 in
set_option maxHeartbeats 16000000 in
theorem mrg_main (k : Nat) (IH : SymK k) (g cap gb : Nat) (X A B Y : List Bk) (w : World) (hk : A.length + B.length ≤ k + 1) (hA2 : 2 ≤ A.length) (hB2 : 2 ≤ B.length) (hg : Gb w g gb) (hR : Rw bkCells w g cap (X ++ A ++ B ++ Y)) (hn : (X ++ A ++ B ++ Y).length ≤ 2097152) (hsA : Sd ltI A) (hsB : Sd ltI B) (a m b n : Nat) (ha : X.length = a) (hm : a + A.length = m) (hb : m + B.length = b) (hl : (X ++ A ++ B ++ Y).length = n) :
    Calls Tryz.prog 77 #[.slice (some ⟨g, 0, none⟩) n cap, .int .i64 a, .int .i64 m, .int .i64 b, cmpV gb] w (MrgEnd w g cap X A B Y) := by
  rw [hl] at hn
  have hN' : a + A.length + B.length + Y.length = n := by rw [← hl, ← ha]; simp only [List.length_append]
  have HG := hid hg; have HR := hid hR; have HSA := hid hsA; have HSB := hid hsB; have HX := hid ha
  have HA : Hid (A.length = m - a) := hid (by omega)
  have HB : Hid (B.length = b - m) := hid (by omega)
  have HY : Hid (Y.length = n - b) := hid (by omega)
  have HK : Hid (b - a ≤ k + 1) := hid (by omega)
  have HIH := hid IH
  have hbn : b ≤ n := by omega
  have ham : a + 2 ≤ m := by omega
  have hmb2 : m + 2 ≤ b := by omega
  have hma : ¬ (m : Int) - (a : Int) = 1 := by omega
  have hmb : ¬ (b : Int) - (m : Int) = 1 := by omega
  clear hg hR hsA hsB hl ha hN' hb hm hA2 hB2 hk IH
  go_enter Tryz.func77, Tryz.ntmps77
  go_upto_region 25 with fail
  have hh : ((a : Int) + (b : Int)) / 2 = (((a + b) / 2 : Nat) : Int) := by omega
  rw [hh]
  clear hh
  obtain ⟨mid, hmid⟩ : ∃ mid, (a + b) / 2 = mid := ⟨_, rfl⟩
  rw [hmid]
  have hd1 : a + 1 ≤ mid := by omega
  have hd2 : mid < b := by omega
  have hd3 : 2 * mid ≤ a + b := by omega
  have hd4 : a + b ≤ 2 * mid + 1 := by omega
  clear hmid
  go_upto_region 27 with fail
  obtain ⟨N, hN⟩ : ∃ N, mid + m = N := ⟨_, rfl⟩
  have hNi : (mid : Int) + (m : Int) = (N : Int) := by omega
  rw [hNi]
  have HN := hid hN
  clear hN hNi
  go_cut [140] (fun v wc => v = .bool (decide (mid < m)) ∧ wc = w)
  case first =>
    by_cases h1 : mid < m
    · go_wp2_with fail
      go_meet
      exact ⟨by simp [h1], rfl⟩
    · go_wp2_with fail
      go_meet
      exact ⟨by simp [h1], rfl⟩
  case rest =>
  obtain ⟨rfl, rfl⟩ := hcut
  rename World => w9
  go_upto_if 140 with fail
  go_cut [20, 21] (fun sv rv wd => ∃ s0 r0 : Nat, sv = .int .i64 s0 ∧ rv = .int .i64 r0 ∧ a ≤ s0 ∧ s0 ≤ r0 ∧ r0 ≤ m ∧ r0 ≤ mid ∧ N ≤ b + s0 ∧ (r0 = m ∨ r0 = mid) ∧ (s0 = a ∨ N = b + s0) ∧ wd = w9)
  case first =>
    have hN := HN.out
    by_cases h1 : mid < m
    · rw [decide_eq_true h1]
      obtain ⟨D, hD⟩ : ∃ D, N - b = D := ⟨_, rfl⟩
      have hz : (N : Int) - (b : Int) = (D : Int) := by omega
      have hDb : D ≤ 2097152 := by omega
      have HD := hid hD
      clear hN hD
      go_wp2_with fail
      go_meet
      have hN := HN.out; have hD := HD.out
      exact ⟨D, mid, rfl, rfl, by omega, by omega, by omega, by omega, by omega, .inr rfl, .inr (by omega), rfl⟩
    · rw [decide_eq_false h1]
      clear hN
      go_wp2_with fail
      go_meet
      have hN := HN.out
      exact ⟨a, m, rfl, rfl, by omega, by omega, by omega, by omega, by omega, .inl rfl, .inl rfl, rfl⟩
  case rest =>
  obtain ⟨s0, r0, rfl, rfl, k1, k2, k3, k4, k5, k6, k7, rfl⟩ := hcut
  rename World => w0
  have HK6 := hid k6; have HK7 := hid k7
  clear k6 k7
  have hN1 : m < N := by have := HN.out; omega
  have hN2 : N ≤ 2097152 * 2 := by have := HN.out; omega
  obtain ⟨p1, hp1⟩ : ∃ p1, p1 + 1 = N := ⟨N - 1, by omega⟩
  have hpi : (N : Int) - 1 = (p1 : Int) := by omega
  have HP1 := hid hp1
  clear hp1
  go_upto_region 33 with fail
  clear hpi
  go_loopw [20, 21, 23] (fun sv rv _ wr => ∃ (s r : Nat), sv = .int .i64 s ∧ rv = .int .i64 r ∧ s0 ≤ s ∧ s ≤ r ∧ r ≤ r0 ∧ (s0 < s → ∃ u v, A[s - 1 - a]? = some u ∧ B[N - s - m]? = some v ∧ Le ltI u v) ∧ (r < r0 → ∃ u v, A[r - a]? = some u ∧ B[N - 1 - r - m]? = some v ∧ ltI v u = true) ∧ So bkCells w0 g cap (X ++ A ++ B ++ Y) wr) (fun sv rv _ _ => (intOf rv).toNat - (intOf sv).toNat)
  case atStart => exact ⟨s0, r0, rfl, rfl, Nat.le_refl _, k2, Nat.le_refl _, fun h => absurd h (by omega), fun h => absurd h (by omega), HR.out, Fr.refl _ _⟩
  case round =>
    obtain ⟨s, r, rfl, rfl, hs0, hsr, hr0, hlo, hhi, hso⟩ := hrel
    have HLO := hid hlo; have HHI := hid hhi; have HSO := hid hso
    clear hlo hhi hso
    by_cases hlt : s < r
    · go_wp2_with fail
      have hh : ((s : Int) + (r : Int)) / 2 = (((s + r) / 2 : Nat) : Int) := by omega
      have h1 : s ≤ (s + r) / 2 := by omega
      have h2 : (s + r) / 2 < r := by omega
      rw [hh]
      clear hh
      generalize (s + r) / 2 = c at h1 h2 ⊢
      have hp1 := HP1.out; have hN := HN.out; have hX := HX.out; have hA := HA.out; have hB := HB.out
      obtain ⟨d, hd⟩ : ∃ d, p1 - c = d := ⟨_, rfl⟩
      have hdi : (p1 : Int) - (c : Int) = (d : Int) := by omega
      have hdm : m ≤ d := by omega
      have hdb : d < b := by omega
      have hcl : c - a < A.length := by omega
      have hdl : d - m < B.length := by omega
      obtain ⟨u, hu⟩ : ∃ u, A[c - a] = u := ⟨_, rfl⟩
      obtain ⟨v, hv⟩ : ∃ v, B[d - m] = v := ⟨_, rfl⟩
      have hu' : A[c - a]? = some u := by rw [← hu]; exact List.getElem?_eq_getElem hcl
      have hv' : B[d - m]? = some v := by rw [← hv]; exact List.getElem?_eq_getElem hdl
      have gu : (X ++ A ++ B ++ Y)[c]? = some u := by
        rw [List.append_assoc (X ++ A), List.getElem?_append_left (by rw [List.length_append]; omega), List.getElem?_append_right (by omega), hX]
        exact hu'
      have gv : (X ++ A ++ B ++ Y)[d]? = some v := by
        rw [List.getElem?_append_left (by rw [List.length_append, List.length_append]; omega), List.getElem?_append_right (by rw [List.length_append]; omega), List.length_append, hX, hA, show d - (a + (m - a)) = d - m by omega]
        exact hv'
      obtain ⟨c0, c1, c2, c3, _, _, _, _⟩ := HSO.out.cel gv
      obtain ⟨d0, d1, d2, d3, _, _, _, _⟩ := HSO.out.cel gu
      obtain ⟨cv, hcv⟩ : ∃ cv, cmpK v.1 u.1 = cv := ⟨_, rfl⟩
      have HNN : Hid (∀ W, Below wr.heap.size wr W → Calls Tryz.prog 30 #[.agg #[.string v.1, .string v.2.x.1, .int .i64 v.2.x.2, .slice v.2.a (lenF v.2.l) v.2.c], .agg #[.string u.1, .string u.2.x.1, .int .i64 u.2.x.2, .slice u.2.a (lenF u.2.l) u.2.c]] W fun e w' => e = .returned (.int .i64 cv) ∧ Below W.heap.size W w') := hid fun W _ => by
        rw [← hcv]
        exact gcmp_any v u W
      have hcl2 := cmp_lt v u
      rw [hcv] at hcl2
      have HCL := hid hcl2; have HU := hid hu'; have HV := hid hv'; have HD := hid hd
      clear gu gv hu hv hu' hv' hcv hcl2 hcl hdl hd hp1 hN hX hA hB
      have hz1 : (c : Int) < (n : Int) := by omega
      have hz2 : (d : Int) < (n : Int) := by omega
      go_wp2_with fail
      have hne := later_some wr
      have l0 := later_cell c0; have l1 := later_cell c1; have l2 := later_cell c2; have l3 := later_cell c3
      have m0 := later_cell d0; have m1 := later_cell d1; have m2 := later_cell d2; have m3 := later_cell d3
      clear c0 c1 c2 c3 d0 d1 d2 d3
      refine wp_region_later (by kernel_rfl) (by kernel_rfl) ?_
      repeat (go_big_quiet_step (first | (go_at_call 30; with_reducible refine calls_later (HNN.out _ ?_); exact Later.below _) | fail))
      refine wpQuiet_nil ?_
      intro _ hw'
      obtain ⟨b4, hw''⟩ := hw'
      subst hw''
      have HSB4 := hid (HSO.out.below b4.below)
      clear l0 l1 l2 l3 m0 m1 m2 m3 hne HNN hdi
      by_cases hcv : cv < 0
      · have hdd : (!decide (cv < 0)) = false := by rw [decide_eq_true hcv]; rfl
        go_wp2_with fail
        all_goals try exact absurd ((show (!decide (cv < 0)) = true by assumption).symm.trans hdd) (by decide)
        go_roundw
        case rel => exact ⟨s, c, rfl, rfl, by omega, by omega, by omega, HLO.out, fun _ => ⟨u, v, HU.out, by have h := HV.out; rw [← HD.out] at h; rw [show N - 1 - c - m = p1 - c - m by have := HP1.out; omega]; exact h, HCL.out.1 hcv⟩, HSB4.out⟩
        case measure => simp [intOf]; omega
      · have hdd : (!decide (cv < 0)) = true := by rw [decide_eq_false hcv]; rfl
        go_wp2_with fail
        all_goals try exact absurd (hdd.symm.trans (show (!decide (cv < 0)) = false by assumption)) (by decide)
        go_roundw
        case rel => exact ⟨c + 1, r, by go_num, rfl, by omega, by omega, by omega, fun _ => ⟨u, v, by rw [show c + 1 - 1 - a = c - a by omega]; exact HU.out, by have h := HV.out; rw [← HD.out] at h; rw [show N - (c + 1) - m = p1 - c - m by have := HP1.out; omega]; exact h, le_of_not HCL.out hcv⟩, HHI.out, HSB4.out⟩
        case measure => simp [intOf]; omega
    · have hse : s = r := by omega
      subst hse
      have hp1 := HP1.out; have hN := HN.out; have hX := HX.out; have hA := HA.out; have hB := HB.out
      obtain ⟨E, hE⟩ : ∃ E, N - s = E := ⟨_, rfl⟩
      have hEi : (N : Int) - (s : Int) = (E : Int) := by omega
      have hEm : m ≤ E := by omega
      have hEb : E ≤ b := by omega
      have hEs : s + E = N := by omega
      have hsm : s ≤ m := by omega
      have has : a ≤ s := by omega
      have hsd : s ≤ mid := by omega
      obtain ⟨f1, f2⟩ := split_facts HSA.out HSB.out (s - a) (E - m) (by omega) (by omega) (fun h3 h4 => by
        obtain ⟨u, v, g1, g2, g3⟩ := HLO.out (by rcases HK7.out with h | h <;> omega)
        exact ⟨u, v, by rw [show s - a - 1 = s - 1 - a by omega]; exact g1, by rw [← hE]; exact g2, g3⟩) (fun h3 h4 => by
        obtain ⟨u, v, g1, g2, g3⟩ := HHI.out (by rcases HK6.out with h | h <;> omega)
        exact ⟨u, v, g1, by rw [show E - m - 1 = N - 1 - s - m by omega]; exact g2, g3⟩)
      have hA12 := (List.take_append_drop (s - a) A).symm
      have hB12 := (List.take_append_drop (E - m) B).symm
      have lA1 : (A.take (s - a)).length = s - a := by rw [List.length_take]; omega
      have lA2 : (A.drop (s - a)).length = m - s := by rw [List.length_drop]; omega
      have lB1 : (B.take (E - m)).length = mid - s := by rw [List.length_take]; omega
      have lB2 : (B.drop (E - m)).length = b - E := by rw [List.length_drop]; omega
      generalize A.take (s - a) = A1 at f1 f2 hA12 lA1
      generalize A.drop (s - a) = A2 at f1 f2 hA12 lA2
      generalize B.take (E - m) = B1 at f1 f2 hB12 lB1
      generalize B.drop (E - m) = B2 at f1 f2 hB12 lB2
      have hsA := HSA.out; have hsB := HSB.out
      subst hA12 hB12
      obtain ⟨st, le⟩ := turned swoI A1 A2 B1 B2 hsA hsB f1 f2
      have ST := hid st; have LE := hid le
      have LA1 := hid lA1; have LA2 := hid lA2; have LB1 := hid lB1; have LB2 := hid lB2
      have HEs := hid hEs
      clear f1 f2 st le hp1 hN hX hA hB hE lA1 lA2 lB1 lB2 hsA hsB hEs
      have HG2 := hid (HG.out.fr HSO.out.fr)
      go_upto_region 39 with fail
      clear hEi
      go_cut [185] (fun v wd => v = .bool (decide (s < m ∧ m < E)) ∧ wd = wr)
      case first =>
        by_cases h1 : s < m
        · by_cases h2 : m < E
          · go_wp2_with fail
            go_meet
            exact ⟨by simp [h1, h2], rfl⟩
          · go_wp2_with fail
            go_meet
            exact ⟨by simp [h1, h2], rfl⟩
        · go_wp2_with fail
          go_meet
          exact ⟨by simp [h1], rfl⟩
      case rest =>
      obtain ⟨rfl, rfl⟩ := hcut
      rename World => wo
      go_upto_if 185 with fail
      go_cut [20] (fun v wd => v = .int .i64 s ∧ So bkCells w0 g cap (X ++ (A1 ++ B1) ++ (A2 ++ B2) ++ Y) wd)
      case first =>
        by_cases h1 : s < m ∧ m < E
        · rw [decide_eq_true h1]
          have hrot := rotate_at g cap (cmpV gb) (X ++ (A1 ++ A2) ++ (B1 ++ B2) ++ Y) (X ++ A1) A2 B1 (B2 ++ Y) s m E n wo (by simp only [List.append_assoc]) (by rw [List.length_append, HX.out, LA1.out]; omega) (by simp only [List.length_append, HX.out, LA1.out, LA2.out]; omega) (by have := HEs.out; have := HN.out; simp only [List.length_append, HX.out, LA1.out, LA2.out, LB1.out]; omega) (by have := HEs.out; have := HN.out; simp only [List.length_append, HX.out, LA1.out, LA2.out, LB1.out, LB2.out, HY.out]; omega) (by rw [LA2.out]; omega) (by have := HEs.out; have := HN.out; rw [LB1.out]; omega) HSO.out.row (by have := HEs.out; have := HN.out; simp only [List.length_append, HX.out, LA1.out, LA2.out, LB1.out, LB2.out, HY.out]; omega)
          have HROT := hid hrot
          clear hrot
          go_wp2_with fail
          refine HROT.out.mono ?_
          rintro e w1 ⟨rfl, hs1⟩
          have HS1 := hid (HSO.out.trans hs1)
          clear hs1
          go_wp2_with fail
          go_meet
          refine ⟨rfl, ?_⟩
          have h := HS1.out
          simp only [List.append_assoc] at h ⊢
          exact h
        · rw [decide_eq_false h1]
          go_wp2_with fail
          go_meet
          refine ⟨rfl, ?_⟩
          have h := HSO.out
          have he : A2 ++ B1 = B1 ++ A2 := by
            have := HEs.out; have := HN.out; have := LA2.out; have := LB1.out
            by_cases h2 : s < m
            · rw [List.eq_nil_of_length_eq_zero (l := B1) (by omega)]
              simp
            · rw [List.eq_nil_of_length_eq_zero (l := A2) (by omega)]
              simp
          have h3 : X ++ (A1 ++ A2) ++ (B1 ++ B2) ++ Y = X ++ (A1 ++ B1) ++ (A2 ++ B2) ++ Y := by
            have h4 : A1 ++ A2 ++ (B1 ++ B2) = A1 ++ (A2 ++ B1) ++ B2 := by simp only [List.append_assoc]
            rw [List.append_assoc X, h4, he]
            simp only [List.append_assoc]
          rw [h3] at h
          exact h
      case rest =>
      obtain ⟨rfl, hso1⟩ := hcut
      rename ∀ (a : Act) (w : World), Code.wp Tryz.prog _ _ a w → _ => hK
      refine hK _ _ ?_
      exact mrg_tail k HIH.out g cap gb X A1 A2 B1 B2 Y w0 _ a m b n mid N s E HG.out hso1 hn HX.out HY.out HK.out hbn hd1 hd2 HN.out hEb hsm has hsd HEs.out HSA.out HSB.out ST.out LE.out LA1.out LA2.out LB1.out LB2.out _ _ _ _ _ _ _ _ _ _ _ _ _ _ _ _ _ _ _ _ _ _ _ _ _ _ _ _ _ _ _ _ _ _ _ _ _ _ _ _ _ _ _ _ _ _ _ _ _ _ _ _ _ _ _ _ _ _ _ _ _ _ _ _ _ _ _ _ _ _ _ _ _ _ _ _ _ _ _ _ _ _ _ _ _ _ _ _ _ _ _ _ _ _ _ _ _ _ _ _ _ _ _ _ _ _ _ _ _ _ _ _ _ _ _ _ _ _ _ _ _ _ _ _ _ _ _ _ _ _ _ _ _ _ _ _ _ _ _ _ _ _ _ _ _ _ _ _ _ _ _ _ _ _ _ _ _ _ _ _ _ _ _ _ _ _ _ _ _ _ _ _ _ _ _ _ _ _ _ _ _ _ _ _ _ _ _ _ _ _ _ _ _ _ _ _ _ _ _ _ _ _ _ _ _ _ _ _ _ _ _ _
theorem symMerge_any : ∀ k, SymK k
  | 0 => fun g cap gb X A B Y w hk hA hB => by omega
  | k + 1 => fun g cap gb X A B Y w hk hA hB hg hR hn hsA hsB a m b n ha hm hb hl => by
    by_cases h1 : A.length = 1
    · obtain ⟨x, rfl⟩ := List.length_eq_one_iff.1 h1
      exact mrg_left g cap gb X x B Y w hg hR hn hsB a m b n ha (by simpa using hm) hb hl
    · by_cases h2 : B.length = 1
      · obtain ⟨y, rfl⟩ := List.length_eq_one_iff.1 h2
        exact mrg_right g cap gb X A y Y w hg hR hn hsA (by omega) a m b n ha hm (by simpa using hb) hl
      · exact mrg_main k (symMerge_any k) g cap gb X A B Y w hk (by omega) (by omega) hg hR hn hsA hsB a m b n ha hm hb hl
end Go.Proofs.YtgidgmgpgfonnaaGreat
