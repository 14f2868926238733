/- The walk of PickSums. -/
import Derived.Test.YteakakonjfcpmaaDoorPkLn
import Derived.Test.YteakakonjfcpmaaDoorPkKept
import Derived.Test.YteakakonjfcpmaaDoorPkNames
namespace Go.Proofs.YteakakonjfcpmaaDoor
open Go.RowKit Go.Shelf

theorem PRows.stay {W W' : World} {base : Nat} {v : Value} {l : List (List Int)} (h : PRows W base v l) (hb : Below W.heap.size W W') : PRows W' base v l := by
  obtain ⟨vs, hz, hl, hr⟩ := h
  exact ⟨vs, hz.below hb, hl, fun i hi => let ⟨q, d, h1, h2⟩ := hr i hi; ⟨q, d, h1, h2.below hb⟩⟩
/-- What Sum answers, as a list. -/
def sumL (rs : List (List Int)) (ws : List Int) (m : Int) : List Int := if sumE rs ws m = 0 then sumTo m rs ws.length rs.length else []
theorem sum_form2 {rs : List (List Int)} {ws : List Int} {m : Int} {w : World} {e : Ending} {w' : World} (h : SumEnd rs ws m w e w') :
    ∃ p c, e = .returned (.tuple #[.slice p (sumL rs ws m).length c, .int .i64 (sumE rs ws m)]) ∧ IntsAt w' p (sumL rs ws m) ∧ Below w.heap.size w w' := by
  obtain ⟨hb, ⟨h2, rfl⟩ | ⟨h2, h3, h4, V, h5, rfl, h6⟩⟩ := sum_form h
  · have e1 : sumL rs ws m = [] := by unfold sumL; rw [if_neg h2]
    rw [e1]
    exact ⟨none, 0, rfl, no_ints _, hb⟩
  · have e1 : sumL rs ws m = sumTo m rs ws.length rs.length := by unfold sumL; rw [if_pos h2]
    rw [e1, h2]
    refine ⟨some ⟨V, 0, none⟩, ws.length, by rw [h3], h6.ints (by unfold maxLen; omega), hb⟩
set_option maxRecDepth 100000 in
set_option maxHeartbeats 8000000 in
theorem pickSums_walk (a : Option Addr) (c : Nat) (rs : List (List Int)) (b : Option Addr) (d : Nat) (ws : List Int) (q : Option Addr) (f : Nat) (ms : List Int) (w : World) (hR : RowsAt w a rs) (hN : ∀ i (hi : i < rs.length), ∃ b o q c, a = some ⟨b, o, none⟩ ∧ w.cell? ⟨b, o + i, none⟩ = some (.slice q rs[i].length c) ∧ IntsAt w q rs[i] ∧ (q = none → c = 0)) (hn : rs.length ≤ 1048576) (hr : ∀ r ∈ rs, r.length ≤ 1048576) (hW : IntsAt w b ws) (hM : MsAt w q ms) (hm : ∀ x ∈ ms, 0 ≤ x ∧ x < 4294967296) (hT : Tab w) :
    Calls Tryd.prog 4 #[.slice a rs.length c, .slice b ws.length d, .slice q ms.length f] w fun e w' => e = .returned (.bool true) ∧ Below w.heap.size w w' := by
  have hmax : maxLen = 9223372036854775807 := rfl
  have HR := hid hR; have HN := hid hN; have HRR := hid hr; have HW := hid hW; have HM := hid hM; have HMB := hid hm; have HT := hid hT
  have hsm := hM.small
  have NNb : ∀ W, Below w.heap.size w W → ∀ i (hi : i < rs.length), ∃ b o q c, a = some ⟨b, o, none⟩ ∧ W.cell? ⟨b, o + i, none⟩ = some (.slice q rs[i].length c) ∧ IntsAt W q rs[i] ∧ (q = none → c = 0) := fun W hb i hi => by
    obtain ⟨b, o, q, c, e1, e2, e3, e4⟩ := hN i hi
    exact ⟨b, o, q, c, e1, below_cell hb _ _ e2, e3.below hb, e4⟩
  have HNB := hid NNb
  clear hR hN hr hW hM hm hT NNb
  go_enter Tryd.func4, Tryd.ntmps4
  go_wp2_with fail
  refine (lives_any w HT.out).mono ?_
  rintro e w1 ⟨rfl, hb1⟩
  have HB1 := hid hb1
  clear hb1
  go_wp2_with fail
  refine (lent_any a c rs w1 (HNB.out w1 HB1.out) hn HRR.out).mono ?_
  rintro e w2 ⟨g, rfl, hl2, hb2⟩
  have HB2 := hid (HB1.out.trans (hb2.mono HB1.out.size)); have HL2 := hid hl2
  have HS1 : Hid (w.heap.size ≤ w1.heap.size) := hid HB1.out.size
  clear hl2 hb2 HB1
  generalize w1.heap.size = base at HL2 HS1
  have HC1 := hid (pcheck_any (some ⟨g, 0, none⟩) (rs.length + 1) rs b d ws w2 HL2.out.rows (HW.out.below HB2.out))
  go_wp2_with fail
  refine HC1.out.mono ?_
  intro e w3 h3
  obtain ⟨rfl, h4⟩ := h3
  rw [h4]
  clear h4 HC1
  have HC2 := hid (rcheck_any a c rs b d ws w2 (HR.out.below HB2.out) (HW.out.below HB2.out))
  obtain ⟨R, hRR⟩ : ∃ R, pkE rs ws = R := ⟨_, rfl⟩
  rw [hRR] at HC2 ⊢
  have hne : (R != R) = false := by simp
  clear hRR
  go_wp2_with fail
  refine HC2.out.mono ?_
  intro e w4 h3
  obtain ⟨rfl, h4⟩ := h3
  rw [h4]
  clear h4 HC2
  go_wp2_with fail
  clear hne
  go_loopw [10] (fun iv wr => ∃ j : Nat, j ≤ ms.length ∧ iv = .int .i64 j ∧ LentAt wr base g rs ∧ Below w.heap.size w wr) (fun iv _ => ms.length - (intOf iv).toNat)
  case atStart => exact ⟨0, Nat.zero_le _, rfl, HL2.out, HB2.out⟩
  case round =>
    obtain ⟨j, hj, rfl, hl, hb⟩ := hrel
    have HL := hid hl; have HB := hid hb
    by_cases hlt : j < ms.length
    · obtain ⟨bq, oq, rfl, hc0⟩ := HM.out.cells j hlt
      obtain ⟨hm0, hm1⟩ := HMB.out ms[j] (List.getElem_mem hlt)
      obtain ⟨m, hme⟩ : ∃ m, ms[j] = m := ⟨_, rfl⟩
      rw [hme] at hc0 hm0 hm1
      clear hme
      have c0 := below_cell hb _ _ hc0
      have HSU := hid (psum_any (some ⟨g, 0, none⟩) (rs.length + 1) rs b d ws m wr hl.rows (HW.out.below hb))
      clear hl hb
      go_wp2_with fail
      refine HSU.out.mono ?_
      intro e wa hend
      obtain ⟨pa, ca, rfl, hia, hba⟩ := sum_form2 hend
      have HBa := hid (HB.out.trans (hba.mono HB.out.size))
      have HIa := hid hia; have HLa := hid (HL.out.below hba)
      have c1 := below_cell HBa.out _ _ hc0
      clear hend hia hba HSU c0
      have HSR := hid (rsum_any a c rs b d ws m wa (HR.out.below HBa.out) (HW.out.below HBa.out) hm0 hm1)
      go_wp2_with fail
      refine HSR.out.mono ?_
      intro e wb hend
      obtain ⟨pb, cb, rfl, hib, hbb⟩ := sum_form2 hend
      have HBb := hid (HBa.out.trans (hbb.mono HBa.out.size))
      have HIa2 := hid (HIa.out.below hbb); have HIb := hid hib; have HLb := hid (HLa.out.below hbb)
      have c2 := below_cell HBb.out _ _ hc0
      clear hend hib hbb HSR c1 HIa HLa HBa
      have HF1 := hid (pfits_any (some ⟨g, 0, none⟩) (rs.length + 1) rs b d ws m wb HLb.out.rows (HW.out.below HBb.out))
      go_wp2_with fail
      refine HF1.out.mono ?_
      rintro e wc ⟨rfl, hbc⟩
      have HBc := hid (HBb.out.trans (hbc.mono HBb.out.size))
      have HIa3 := hid (HIa2.out.below hbc); have HIb3 := hid (HIb.out.below hbc); have HLc := hid (HLb.out.below hbc)
      have c3 := below_cell HBc.out _ _ hc0
      clear hbc HF1 c2 HIa2 HIb HLb HBb
      have HF2 := hid (rFits_any a c rs b d ws m wc (HR.out.below HBc.out) (HW.out.below HBc.out) hm0 hm1)
      go_wp2_with fail
      refine HF2.out.mono ?_
      rintro e wd ⟨rfl, hbd⟩
      have HBd := hid (HBc.out.trans (hbd.mono HBc.out.size))
      have HIa4 := hid (HIa3.out.below hbd); have HIb4 := hid (HIb3.out.below hbd); have HLd := hid (HLc.out.below hbd)
      have c4 := below_cell HBd.out _ _ hc0
      clear hbd HF2 c3 HIa3 HIb3 HLc HBc
      have HPK := hid (picked_any (some ⟨g, 0, none⟩) (rs.length + 1) rs m wd HLd.out.rows hn HRR.out)
      go_wp2_with fail
      refine HPK.out.mono ?_
      rintro e we ⟨vp, rfl, hp, hbe⟩
      obtain ⟨pp, cp, rfl⟩ := hp.form
      have HBe := hid (HBd.out.trans (hbe.mono HBd.out.size))
      have HDE := hid hbe
      have HP := hid hp
      have HSM := hid (same_any pa ca (sumL rs ws m) pb cb (sumL rs ws m) we (HIa4.out.below hbe) (HIb4.out.below hbe))
      rw [decide_eq_true rfl] at HSM
      have c5 := below_cell HBe.out _ _ hc0
      clear hp hbe HPK c4 HIa4 HIb4
      go_wp2_with fail
      refine HSM.out.mono ?_
      rintro e wf ⟨rfl, hbf⟩
      have HBf := hid (HBe.out.trans (hbf.mono HBe.out.size))
      have HDF := hid (HDE.out.trans (hbf.mono HDE.out.size))
      have HPf := hid (HP.out.stay hbf)
      have c6 := below_cell HBf.out _ _ hc0
      clear hbf HSM c5 HP HDE HBe
      have HRP := hid (rpicked_any a c rs m wf (HR.out.below HBf.out) (HNB.out wf HBf.out) hn HRR.out hm0 hm1)
      go_wp2_with fail
      refine HRP.out.mono ?_
      rintro e wg ⟨vr, rfl, hpr, hbg⟩
      obtain ⟨pr, cr, rfl⟩ := hpr.form
      have HBg := hid (HBf.out.trans (hbg.mono HBf.out.size))
      have HDG := hid (HDF.out.trans (hbg.mono HDF.out.size))
      have HPg := hid (HPf.out.stay hbg)
      have hpl := pickTo_len m rs rs.length
      have HSA := hid (sameAll_any pp cp (pickTo m rs rs.length) pr cr (pickTo m rs rs.length) wg (HPg.out.rows (by omega)).at (hpr.rows (by omega)).at)
      rw [decide_eq_true rfl] at HSA
      clear hpr hbg HRP HPf HDF HBf c6
      go_wp2_with fail
      refine HSA.out.mono ?_
      rintro e wh ⟨rfl, hbh⟩
      have HBh := hid (HBg.out.trans (hbh.mono HBg.out.size))
      have HDH := hid (HDG.out.trans (hbh.mono HDG.out.size))
      have HSP := hid (spoil_any wd.heap.size _ wh (HPg.out.stay hbh).spoil)
      clear hbh HSA HPg HDG HBg hpl
      go_wp2_with fail
      refine HSP.out.mono ?_
      rintro e wi ⟨⟨u, rfl⟩, hbi⟩
      have HDI := hid (HDH.out.trans hbi)
      have HLI := hid (HLd.out.below HDI.out)
      have HBI := hid (HBd.out.trans (HDI.out.mono HBd.out.size))
      clear hbi HDH HSP HLd HBh HBd HDI
      obtain ⟨fe, hfe⟩ : ∃ fe, fitE rs ws m = fe := ⟨_, rfl⟩
      obtain ⟨se, hse⟩ : ∃ se, sumE rs ws m = se := ⟨_, rfl⟩
      rw [hfe, hse]
      have hn1 : (se != se) = false := by simp
      have hn2 : (fe != fe) = false := by cases fe <;> rfl
      clear hfe hse
      go_wp2_with fail
      go_roundw
      case rel => exact ⟨j + 1, by omega, by go_num, HLI.out, HBI.out⟩
      case measure => simp [intOf]; omega
    · have HK := hid (kept_any base g rs a c wr hl (HR.out.below hb))
      clear hl hb
      go_wp2_with fail
      refine HK.out.mono ?_
      rintro e wk ⟨rfl, hbk⟩
      have HBk := hid (HB.out.trans (hbk.mono HB.out.size))
      clear hbk HK
      go_wp2_with fail
      go_ret
      exact ⟨rfl, HBk.out⟩
end Go.Proofs.YteakakonjfcpmaaDoor
