/- Minimal. -/
import Derived.Test.YtbdkogccjnmfoaaLkC
import Derived.Test.YtbdkogccjnmfoaaLkD
import Derived.Deep.CutBlock
import Derived.Deep.DeepCutAuto
namespace Go.Proofs.Ytbdkogccjnmfoaa
open Go.RowKit Go.Shelf

/-- Is it a minimal solution? -/
def minB (a b v : List Int) : Bool := decide (chkE a b = 0) && (ML a b).contains v
theorem minB_iff (a b v : List Int) : minB a b v = true ↔ chkE a b = 0 ∧ v ∈ ML a b := by
  unfold minB
  rw [Bool.and_eq_true, decide_eq_true_iff, List.contains_iff_mem]
theorem solB_sol {a b v : List Int} (h : solB a b v = true) : chkE a b = 0 ∧ Sol a b (a.length + b.length) v := by
  unfold solB at h
  simp only [Bool.and_eq_true, decide_eq_true_eq, Bool.not_eq_true'] at h
  obtain ⟨h0, h1, h2, h3⟩ := h
  exact ⟨h0, h1, (cnt_iff v).1 h2, by unfold gapOf; omega⟩
theorem sol_solB {a b v : List Int} (h0 : chkE a b = 0) (h : Sol a b (a.length + b.length) v) : solB a b v = true := by
  unfold solB
  have h3 := h.2.2
  unfold gapOf at h3
  rw [(cnt_iff v).2 h.2.1]
  simp [h0, h.1]
  omega
theorem minB_not {a b v : List Int} (h : solB a b v = false) : minB a b v = false := by
  cases hm : minB a b v with
  | false => rfl
  | true =>
    obtain ⟨h0, h1⟩ := (minB_iff a b v).1 hm
    rw [sol_solB h0 (ml_sol h0 h1)] at h
    cases h
theorem fx_get {a b v : List Int} (hs : Sol a b (a.length + b.length) v) (i : Nat) (h : i < (v.take a.length).length) : (v.take a.length)[i] = ((fx a v i : Nat) : Int) := by
  rw [List.length_take] at h
  rw [List.getElem_take]
  unfold fx
  rw [if_pos (by omega), getD_lt v i (by omega), Int.toNat_of_nonneg (hs.2.1.get i (by omega)).1]
theorem fy_get {a b v : List Int} (hs : Sol a b (a.length + b.length) v) (i : Nat) (h : i < (v.drop a.length).length) : (v.drop a.length)[i] = ((fy a b v i : Nat) : Int) := by
  rw [List.length_drop] at h
  have := hs.1
  rw [List.getElem_drop]
  unfold fy
  rw [if_pos (by omega), getD_lt v _ (by omega), Int.toNat_of_nonneg (hs.2.1.get _ (by omega)).1]
theorem sum_fx {a b v : List Int} (hs : Sol a b (a.length + b.length) v) : sumI (v.take a.length) = ((tot (fx a v) a.length : Nat) : Int) := by
  rw [← sumI_tot]
  congr 1
  have hl := hs.1
  refine List.ext_getElem (by rw [toI_len, List.length_take]; simp; omega) (fun i h1 h2 => ?_)
  rw [fx_get hs i h1]
  unfold toI
  simp
set_option maxRecDepth 100000 in
set_option maxHeartbeats 4000000 in
theorem minimal_any (p : Option Addr) (c : Nat) (a : List Int) (q : Option Addr) (d : Nat) (b : List Int) (g m : Nat) (v : List Int) (w : World) (hA : IntsAt w p a) (hB : IntsAt w q b) (hV : Bl w g v) (hvm : v.length ≤ m) (hm : m ≤ 1152921504606846976) :
    Calls Try.prog 25 #[.slice p a.length c, .slice q b.length d, .slice (some ⟨g, 0, none⟩) v.length m] w fun e w' => e = .returned (.bool (minB a b v)) ∧ Below w.heap.size w w' := by
  have hmax : maxLen = 9223372036854775807 := rfl
  have hsa := hA.small; have hsb := hB.small
  have HA := hid hA; have HB := hid hB; have HV := hid hV
  have HSV := hid (solves_any p c a q d b g m v w hA hB hV hvm hm)
  clear hA hB hV
  cases hso : solB a b v with
  | false =>
    have HR := hid (minB_not hso)
    rw [hso] at HSV
    clear hso
    go_enter Try.func25, Try.ntmps25
    go_wp2_with fail
    refine HSV.out.mono ?_
    rintro e w1 ⟨rfl, hb1⟩
    have HB1 := hid hb1
    clear hb1
    go_wp2_with fail
    go_ret
    exact ⟨by rw [HR.out]; rfl, HB1.out⟩
  | true =>
    obtain ⟨h0, hs⟩ := solB_sol hso
    rw [hso] at HSV
    obtain ⟨l5, l6, k1, k2⟩ := chk_zero h0
    have HK1 := hid (coe_of k1); have HK2 := hid (coe_of k2)
    have hl := hs.1
    have HS := hid hs; have H0 := hid h0; have HL := hid hl
    obtain ⟨R, hR⟩ : ∃ R, minB a b v = R := ⟨_, rfl⟩
    have HR := hid hR
    rw [hR]
    clear hso k1 k2 hs h0 hR hl
    go_enter Try.func25, Try.ntmps25
    go_wp2_with fail
    refine HSV.out.mono ?_
    rintro e w1 ⟨rfl, hb1⟩
    have HB1 := hid hb1
    have HV1 : Hid (Bl w1 g v) := hid (HV.out.same (hb1.block g HV.out.lt))
    have HA1 := hid (HA.out.below hb1); have HBB1 := hid (HB.out.below hb1)
    clear hb1 HSV HV HA HB
    go_upto_region 3 with fail
    go_cut [7, 8] (fun xv yv wc => xv = .slice (some ⟨g, 0, none⟩) a.length m ∧ ∃ q2 d2, yv = .slice q2 b.length d2 ∧ IntsAt wc q2 (v.drop a.length) ∧ ∃ n, wc = w1.drewN n)
    case first =>
      have hi0 : (0 : Int) ≤ (a.length : Int) := by omega
      have hi1 : (a.length : Int) ≤ (v.length : Int) := by have := HL.out; omega
      have hi2 : (a.length : Int) ≤ (m : Int) := by omega
      have hi3 : (v.length : Int) ≤ (m : Int) := by omega
      have hbl : v.length - a.length = b.length := by have := HL.out; omega
      have HD : Hid (∀ n, IntsAt (w1.drewN n) (some ⟨g, a.length, none⟩) (v.drop a.length)) := hid (fun n => (HV1.out.drop (by omega) _).drewN n)
      by_cases hma : m = a.length
      · have hd0 : Hid (v.drop a.length = []) := hid (List.drop_eq_nil_of_le (by omega))
        have HB0 : Hid (b.length = 0) := hid (by have := HL.out; omega)
        subst hma
        clear hbl
        go_big_quiet (fail)
        go_wp2_with fail
        go_meet
        exact ⟨rfl, _, _, by rw [HB0.out], by rw [hd0.out]; exact nil_ints _ _, _, rfl⟩
      · have sF : ∀ n, (Instr.sliceAt 27 (.slice (some ⟨g, 0, none⟩) v.length m) (some (.int .i64 (a.length : Int))) none none).run Try.prog (w1.drewN n) = .ok (.slice (some ⟨g, a.length, none⟩) b.length (m - a.length)) (w1.drewN n) := fun n => by rw [← hbl]; exact slice_from g v.length m a.length (by omega) hvm hma (w1.drewN n)
        have sT : ∀ n, (Instr.sliceAt 27 (.slice (some ⟨g, 0, none⟩) v.length m) none (some (.int .i64 (a.length : Int))) none).run Try.prog (w1.drewN n) = .ok (.slice (some ⟨g, 0, none⟩) a.length m) (w1.drewN n) := fun n => slice_to g v.length m a.length (by omega) hvm (w1.drewN n)
        have hi4 : ((m - a.length : Nat) : Int) ≠ 0 := by omega
        go_big_quiet (fail)
        go_wp2_with fail
        go_meet
        exact ⟨rfl, _, _, rfl, HD.out _, _, rfl⟩
    case rest =>
      obtain ⟨rfl, q2, d2, rfl, hY, n, hwc⟩ := hcut
      rename World => wc
      have hX : IntsAt wc (some ⟨g, 0, none⟩) (v.take a.length) := by rw [hwc]; exact (HV1.out.take (by omega) _).drewN n
      have hA2 : IntsAt wc p a := by rw [hwc]; exact HA1.out.drewN n
      have hB2 : IntsAt wc q b := by rw [hwc]; exact HBB1.out.drewN n
      have HBW : Hid (Below w.heap.size w wc) := hid (by rw [hwc]; exact below_drewN HB1.out n)
      have hcx : ∀ x ∈ v.take a.length, 0 ≤ x ∧ x ≤ 1048576 := fun x hx => HS.out.2.1 x (List.mem_of_mem_take hx)
      have hcy : ∀ x ∈ v.drop a.length, 0 ≤ x ∧ x ≤ 1048576 := fun x hx => HS.out.2.1 x (List.mem_of_mem_drop hx)
      have hlx : (v.take a.length).length = a.length := by rw [List.length_take]; have := HL.out; omega
      have hly : (v.drop a.length).length = b.length := by rw [List.length_drop]; have := HL.out; omega
      have HT1 := hid (total_any (some ⟨g, 0, none⟩) m (v.take a.length) wc hX hcx (by omega))
      have HT2 := hid (total_any q2 d2 (v.drop a.length) wc hY hcy (by omega))
      have HG1 := hid (greatest_any q d b wc hB2)
      have HG2 := hid (greatest_any p c a wc hA2)
      have HX := hid hX; have HY := hid hY; have HA2 := hid hA2; have HB2 := hid hB2
      rw [hlx] at HT1
      rw [hly] at HT2
      have HE1 : Hid (R = true → sumI (v.take a.length) ≤ grt b ∧ sumI (v.drop a.length) ≤ grt a) := hid (fun h => by
        rw [h] at HR
        obtain ⟨q1, q2, _⟩ := ml_bound H0.out ((minB_iff a b v).1 HR.out).2
        exact ⟨q1, q2⟩)
      have HLX := hid hlx; have HLY := hid hly
      obtain ⟨s1, hs1⟩ : ∃ s, sumI (v.take a.length) = s := ⟨_, rfl⟩
      obtain ⟨s2, hs2⟩ : ∃ s, sumI (v.drop a.length) = s := ⟨_, rfl⟩
      obtain ⟨g1, hg1⟩ : ∃ s, grt b = s := ⟨_, rfl⟩
      obtain ⟨g2, hg2⟩ : ∃ s, grt a = s := ⟨_, rfl⟩
      rw [hs1, hs2, hg1, hg2] at HE1
      rw [hs1] at HT1
      rw [hs2] at HT2
      rw [hg1] at HG1
      rw [hg2] at HG2
      have HS1 := hid hs1; have HGG1 := hid hg1
      clear hwc hX hA2 hB2 hcx hcy hlx hly hY hs1 hs2 hg1 hg2 HV1 HA1 HBB1 HB1
      by_cases hc1 : g1 < s1
      · have HRF : Hid (R = false) := hid (by
          cases hR : R with
          | false => rfl
          | true => have := (HE1.out hR).1; omega)
        go_wp2_with fail
        refine HT1.out.mono ?_
        rintro e w2 ⟨rfl, hw2⟩
        subst hw2
        go_wp2_with fail
        refine HG1.out.mono ?_
        rintro e w2 ⟨rfl, hw2⟩
        subst hw2
        go_wp2_with fail
        go_ret
        exact ⟨by rw [HRF.out]; rfl, HBW.out⟩
      · by_cases hc2 : g2 < s2
        · have HRF : Hid (R = false) := hid (by
            cases hR : R with
            | false => rfl
            | true => have := (HE1.out hR).2; omega)
          go_wp2_with fail
          refine HT1.out.mono ?_
          rintro e w2 ⟨rfl, hw2⟩
          subst hw2
          go_wp2_with fail
          refine HG1.out.mono ?_
          rintro e w2 ⟨rfl, hw2⟩
          subst hw2
          go_wp2_with fail
          refine HT2.out.mono ?_
          rintro e w2 ⟨rfl, hw2⟩
          subst hw2
          go_wp2_with fail
          refine HG2.out.mono ?_
          rintro e w2 ⟨rfl, hw2⟩
          subst hw2
          go_wp2_with fail
          go_ret
          exact ⟨by rw [HRF.out]; rfl, HBW.out⟩
        · have hS36 : S (pbOf a b).a (fx a v) a.length ≤ 36 := by
            have h1 := S_tot (pbOf a b).a (fx a v) 6 a.length (fun i hi => ((pb_ok H0.out).a1 i hi).2)
            have h2 := sum_fx HS.out
            have h3 := grt_six HK2.out
            have h4 := HS1.out; have h5 := HGG1.out
            omega
          have hS36' : S (pbOf a b).b (fy a b v) b.length ≤ 36 := by
            have h1 : S (pbOf a b).a (fx a v) a.length = S (pbOf a b).b (fy a b v) b.length := sol_S H0.out HS.out
            omega
          have HU1 := hid (sums_any p c a (some ⟨g, 0, none⟩) m (v.take a.length) wc HA2.out HX.out HK1.out (by rw [HLX.out]; exact Nat.le_refl _) (pbOf a b).a (fx a v) (fun i hi => pb_a H0.out i hi) (fun i hi _ => fx_get HS.out i hi) (fun i hi => if_neg (Nat.not_lt.2 hi)) hS36)
          have HU2 := hid (sums_any q d b q2 d2 (v.drop a.length) wc HB2.out HY.out HK2.out (by rw [HLY.out]; exact Nat.le_refl _) (pbOf a b).b (fy a b v) (fun i hi => pb_b H0.out i hi) (fun i hi _ => fy_get HS.out i hi) (fun i hi => if_neg (Nat.not_lt.2 hi)) hS36')
          rw [HLX.out] at HU1
          rw [HLY.out] at HU2
          have HSS := hid hS36
          clear hS36 hS36'
          go_wp2_with fail
          refine HT1.out.mono ?_
          rintro e w2 ⟨rfl, hw2⟩
          subst hw2
          go_wp2_with fail
          refine HG1.out.mono ?_
          rintro e w2 ⟨rfl, hw2⟩
          subst hw2
          go_wp2_with fail
          refine HT2.out.mono ?_
          rintro e w2 ⟨rfl, hw2⟩
          subst hw2
          go_wp2_with fail
          refine HG2.out.mono ?_
          rintro e w2 ⟨rfl, hw2⟩
          subst hw2
          clear HT1 HT2 HG1 HG2
          go_wp2_with fail
          refine HU1.out.mono ?_
          rintro e w2 ⟨⟨m1, rfl, hm1, hb1⟩, hw2⟩
          subst hw2
          have HM1 := hid hm1
          clear hm1
          go_wp2_with fail
          refine HU2.out.mono ?_
          rintro e w2 ⟨⟨m2, rfl, hm2, hb2⟩, hw2⟩
          subst hw2
          have HF : Hid (decide (cnt (m1 &&& m2) = 2) = R) := hid (by
            have h1 := min_mask H0.out HS.out HM1.out hm2 HSS.out
            rw [← HR.out]
            by_cases h : v ∈ ML a b
            · rw [(minB_iff a b v).2 ⟨H0.out, h⟩, decide_eq_true (h1.2 h)]
            · rw [decide_eq_false (fun e => h (h1.1 e))]
              cases hm : minB a b v with
              | false => rfl
              | true => exact absurd ((minB_iff a b v).1 hm).2 h)
          have hand := bits_and m1 m2 (by simp only [Nat.reducePow] at hb1; omega) (by simp only [Nat.reducePow] at hb2; omega)
          have HO := hid (fun W => only_any (m1 &&& m2) W (Nat.lt_of_le_of_lt Nat.and_le_left (by simp only [Nat.reducePow] at hb1; omega)))
          rw [HF.out] at HO
          generalize m1 &&& m2 = mm at hand HO
          clear hm2 HU1 HU2 HF
          go_wp2_with fail
          refine (HO.out _).mono ?_
          rintro e w2 ⟨rfl, hw2⟩
          subst hw2
          go_wp2_with fail
          go_ret
          exact ⟨rfl, HBW.out⟩
end Go.Proofs.Ytbdkogccjnmfoaa
