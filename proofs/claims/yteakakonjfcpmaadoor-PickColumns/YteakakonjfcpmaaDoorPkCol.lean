/- The walk of PickColumns. -/
import Derived.Test.YteakakonjfcpmaaDoorPkLives
namespace Go.Proofs.YteakakonjfcpmaaDoor
open Go.RowKit Go.Shelf

/-- One want alone. -/
abbrev alone (ws : List Int) (i : Nat) : List Int := (List.replicate ws.length 0).set i (ws.getD i 0)
theorem alone_len (ws : List Int) (i : Nat) : (alone ws i).length = ws.length := by simp [alone]
theorem alone_at (ws : List Int) (i j : Nat) (hj : j < (alone ws i).length) : (alone ws i)[j] = if i = j then ws.getD i 0 else 0 := by
  rw [List.getElem_set]
  split <;> simp
theorem fit_alone {ws ss : List Int} {i : Nat} (hi : i < ws.length) (hl : ss.length = ws.length) : fitW (alone ws i) ss = !offW ws[i] (ss[i]'(by omega)) := by
  have hgd : ws.getD i 0 = ws[i] := get_d hi
  have hal := alone_len ws i
  unfold fitW
  congr 1
  rw [Bool.eq_iff_iff, List.any_eq_true]
  constructor
  · rintro ⟨p, hp, hq⟩
    obtain ⟨j, hj, rfl⟩ := List.getElem_of_mem hp
    rw [List.length_zip, hal] at hj
    simp only [List.getElem_zip] at hq
    rw [alone_at] at hq
    by_cases hij : i = j
    · subst hij
      rw [if_pos rfl, hgd] at hq
      exact hq
    · rw [if_neg hij] at hq
      simp [offW] at hq
  · intro h
    refine ⟨((alone ws i)[i]'(by omega), ss[i]'(by omega)), ?_, ?_⟩
    · rw [List.mem_iff_getElem]
      exact ⟨i, by rw [List.length_zip]; omega, by rw [List.getElem_zip]⟩
    · show offW ((alone ws i)[i]'(by omega)) _ = true
      rw [alone_at, if_pos rfl, hgd]
      exact h
theorem alone_ok {rs : List (List Int)} {ws : List Int} {i : Nat} (h : pkE rs ws = 0) (hi : i < ws.length) : pkE rs (alone ws i) = 0 := by
  have hok := pkE_ok h
  have hgd : ws.getD i 0 = ws[i] := get_d hi
  unfold pkE at h ⊢
  rw [alone_len]
  split at h
  · omega
  rename_i h1
  split at h
  · omega
  rename_i h2
  split at h
  · omega
  rename_i h3
  split at h
  · omega
  rename_i h4
  rw [if_neg h1, if_neg h2, if_neg (fun hb => ?_), if_neg h4]
  obtain ⟨x, hx, hbx⟩ := List.any_eq_true.1 hb
  obtain ⟨j, hj, rfl⟩ := List.getElem_of_mem hx
  rw [alone_at] at hbx
  by_cases hij : i = j
  · rw [if_pos hij, hgd] at hbx
    exact h3 (List.any_eq_true.2 ⟨_, List.getElem_mem hi, hbx⟩)
  · rw [if_neg hij] at hbx
    simp [badW] at hbx
theorem each_step {ws ss : List Int} {i : Nat} (hi : i < ws.length) (hl : ss.length = ws.length) : (!((ws.zip ss).take (i + 1)).any fun p => offW p.1 p.2) = ((!((ws.zip ss).take i).any fun p => offW p.1 p.2) && fitW (alone ws i) ss) := by
  rw [fit_alone hi hl, List.take_add_one, List.getElem?_eq_getElem (by rw [List.length_zip]; omega), List.getElem_zip]
  simp [List.any_append, Bool.not_or]
theorem one_step {ws : List Int} {i : Nat} (hi : i < ws.length) : (ws.take (i + 1)).any (fun x => x == 2) = ((ws.take i).any (fun x => x == 2) || (ws[i] == 2)) := by
  rw [List.take_add_one, List.getElem?_eq_getElem hi]
  simp only [Option.toList, List.any_append, List.any_cons, List.any_nil, Bool.or_false]
theorem more_fit {rs : List (List Int)} {ws : List Int} {A B : Nat} (h : RowsOk rs ws.length) (hA : A < 4294967296) (hB : B < 4294967296) (hs : ∀ i, A.testBit i = true → B.testBit i = true) (h1 : ws.any (fun x => x == 2) = false) (hf : fitN rs ws A = true) : fitN rs ws B = true := by
  unfold fitN fitW at hf ⊢
  rw [Bool.not_eq_true', Bool.eq_false_iff] at hf ⊢
  intro hb
  apply hf
  obtain ⟨p, hp, hq⟩ := List.any_eq_true.1 hb
  obtain ⟨c, hc, rfl⟩ := List.getElem_of_mem hp
  rw [List.length_zip, sumN_len h] at hc
  have hcw : c < ws.length := by omega
  simp only [List.getElem_zip] at hq
  refine List.any_eq_true.2 ⟨(ws[c], (sumN rs ws.length A)[c]'(by rw [sumN_len h]; exact hcw)), ?_, ?_⟩
  · rw [List.mem_iff_getElem]
    exact ⟨c, by rw [List.length_zip, sumN_len h]; omega, by rw [List.getElem_zip]⟩
  · have hm := colS_mono (h := fun i => A.testBit i) (g := fun i => B.testBit i) (c := c) (fun r hr x hx => (h.nums r hr x hx).1) hs rs.length
    have e1 := sumN_col h hcw hA
    have e2 := sumN_col h hcw hB
    rw [get_d (by rw [sumN_len h]; exact hcw)] at e1 e2
    have h2 : (ws[c] == 2) = false := by
      cases hx : (ws[c] == 2) with
      | false => rfl
      | true =>
        rw [List.any_eq_true.2 ⟨ws[c], List.getElem_mem hcw, hx⟩] at h1
        cases h1
    unfold offW at hq ⊢
    simp only [h2, Bool.false_and, Bool.or_false, Bool.and_eq_true, decide_eq_true_eq] at hq ⊢
    exact ⟨hq.1, by omega⟩
theorem sumE_ok {rs : List (List Int)} {ws : List Int} {M : Nat} (h : pkE rs ws = 0) (hM : M < 2 ^ rs.length) : sumE rs ws M = 0 ∧ fitE rs ws M = fitN rs ws M := by
  have e1 : sumE rs ws M = 0 := by
    unfold sumE
    rw [if_pos h, if_pos]
    have h2 : ((M : Int) / 2 ^ rs.length) = ((M / 2 ^ rs.length : Nat) : Int) := by simp
    rw [h2, Nat.div_eq_of_lt hM]
    rfl
  refine ⟨e1, ?_⟩
  unfold fitE
  rw [e1]
  rfl
set_option maxRecDepth 100000 in
set_option maxHeartbeats 8000000 in
theorem pickColumns_walk (a : Option Addr) (c : Nat) (rs : List (List Int)) (b : Option Addr) (d : Nat) (ws : List Int) (m0 m1 : Nat) (w : World) (hR : RowsAt w a rs) (hW : IntsAt w b ws) (h0 : m0 < 4294967296) (h1 : m1 < 4294967296) (hT : Tab w) :
    Calls Tryd.prog 6 #[.slice a rs.length c, .slice b ws.length d, .agg #[.int .u32 m0, .int .u32 m1]] w fun e w' => e = .returned (.bool true) ∧ Below w.heap.size w w' := by
  obtain ⟨i0, hi0, hz0, hz1, hz2⟩ := info_parts Tryd.info3
  have hmax : maxLen = 9223372036854775807 := rfl
  have b1 := alloc_below0 w (.cells #[.int .u32 m0, .int .u32 m1] 48)
  have n1 := World.alloc_heap_new w (.cells #[.int .u32 m0, .int .u32 m1] 48)
  have HLV := hid (lives_any _ (hT.below b1))
  have HST := hid (And.intro b1 n1)
  have HRW := hid hR; have HWW := hid hW
  have hsr := hR.small; have hsw := hW.small
  clear b1 n1 hT hR hW
  go_enter Tryd.func6, Tryd.ntmps6
  go_wp2_with fail
  generalize w.alloc (.cells #[.int .u32 m0, .int .u32 m1] 48) = W1 at HST HLV ⊢
  refine HLV.out.mono ?_
  rintro e w2 ⟨rfl, hb2⟩
  have hB2 : Below w.heap.size w w2 := HST.out.1.trans (hb2.mono HST.out.1.size)
  have n2 := below_blk hb2 HST.out.2
  have q0 := cell_box n2 (i := 0) rfl
  have q1 := cell_box n2 (i := 1) rfl
  have HCK := hid (pcheck_any a c rs b d ws w2 (HRW.out.below hB2) (HWW.out.below hB2))
  have HB2 := hid hB2
  clear hb2 hB2 n2 HLV HST
  obtain ⟨R, hRR⟩ : ∃ R, pkE rs ws = R := ⟨_, rfl⟩
  rw [hRR] at HCK
  have HRR := hid hRR
  clear hRR
  go_wp2_with fail
  refine HCK.out.mono ?_
  intro e w3 h3
  obtain ⟨rfl, h4⟩ := h3
  rw [h4]
  clear h4 HCK
  by_cases hz : R = 0
  · subst hz
    have OK := hid (pkE_ok HRR.out)
    have hf16 := OK.out.few; have hw10 := OK.out.wide
    obtain ⟨hm1, hm2⟩ := all_mask rs.length hf16
    have hk : 2 ^ rs.length ≤ 65536 := Nat.pow_le_pow_right (n := 2) (by omega) hf16
    have hkp := Nat.two_pow_pos rs.length
    obtain ⟨A, hA⟩ : ∃ A, m0 &&& (2 ^ rs.length - 1) = A := ⟨_, rfl⟩
    obtain ⟨C, hC⟩ : ∃ C, m1 &&& (2 ^ rs.length - 1) = C := ⟨_, rfl⟩
    have hA2 : A < 2 ^ rs.length := by rw [← hA]; exact Nat.lt_of_le_of_lt Nat.and_le_right (by omega)
    have hC2 : C < 2 ^ rs.length := by rw [← hC]; exact Nat.lt_of_le_of_lt Nat.and_le_right (by omega)
    have hB2 : C ||| A < 2 ^ rs.length := Nat.or_lt_two_pow hC2 hA2
    have ha1 : bits .and .u32 (m0 : Int) ((2 ^ rs.length - 1 : Nat) : Int) = (A : Int) := by rw [u32_and_nat _ _ h0 (by omega), hA]
    have ha2 : bits .and .u32 (m1 : Int) ((2 ^ rs.length - 1 : Nat) : Int) = (C : Int) := by rw [u32_and_nat _ _ h1 (by omega), hC]
    have ha3 : bits .or .u32 (C : Int) (A : Int) = ((C ||| A : Nat) : Int) := u32_or_nat _ _ (by omega) (by omega)
    have hsub : ∀ i, A.testBit i = true → (C ||| A).testBit i = true := fun i hi => by rw [Nat.testBit_or, hi, Bool.or_true]
    obtain ⟨B, hB⟩ : ∃ B, C ||| A = B := ⟨_, rfl⟩
    rw [hB] at ha3 hsub hB2
    obtain ⟨e1, e2⟩ := sumE_ok HRR.out hA2
    obtain ⟨e3, e4⟩ := sumE_ok HRR.out hB2
    have hF1 := pfits_any a c rs b d ws (A : Int) w2 (HRW.out.below HB2.out) (HWW.out.below HB2.out)
    rw [e1, e2] at hF1
    have hmf := more_fit OK.out (by omega) (by omega) hsub
    have HMF := hid hmf; have HA2 := hid hA2; have HB3 := hid hB2; have HF1 := hid hF1; have HE3 := hid e3; have HE4 := hid e4
    generalize ((2 ^ rs.length - 1 : Nat) : Int) = mk at hm2 ha1 ha2
    generalize ((2 ^ rs.length : Nat) : Int) = mk1 at hm1 hm2
    clear hA hC hA2 hC2 hB2 hB hsub e1 e2 e3 e4 hF1 hmf hkp
    go_wp2_with fail
    refine HF1.out.mono ?_
    rintro e w4 ⟨rfl, hb4⟩
    have HB4 := hid (HB2.out.trans (hb4.mono HB2.out.size))
    clear hb4 HF1
    obtain ⟨fa, hfa⟩ : ∃ fa, fitN rs ws A = fa := ⟨_, rfl⟩
    rw [hfa] at HMF
    have HFA := hid hfa
    rw [hfa]
    clear hfa hm1 hm2 ha1 ha2 ha3 q0 q1 h0 h1
    go_wp2_with fail
    go_loopw [12, 13, 14] (fun ev ov iv wr => ∃ j : Nat, j ≤ ws.length ∧ iv = .int .i64 j ∧ ev = .bool (!((ws.zip (sumN rs ws.length A)).take j).any fun p => offW p.1 p.2) ∧ ov = .bool ((ws.take j).any (fun x => x == 2)) ∧ Below w.heap.size w wr) (fun _ _ iv _ => ws.length - (intOf iv).toNat)
    case atStart => exact ⟨0, Nat.zero_le _, rfl, by simp, by simp, HB4.out⟩
    case round =>
      obtain ⟨j, hj, rfl, rfl, rfl, hb⟩ := hrel
      have HB := hid hb
      by_cases hlt : j < ws.length
      · have hes := each_step hlt (sumN_len (M := A) OK.out)
        have hos := one_step hlt
        obtain ⟨ev, hev⟩ : ∃ ev, (!((ws.zip (sumN rs ws.length A)).take j).any fun p => offW p.1 p.2) = ev := ⟨_, rfl⟩
        obtain ⟨ov, hov⟩ : ∃ ov, ((ws.take j).any (fun x => x == 2)) = ov := ⟨_, rfl⟩
        rw [hev] at hes
        rw [hov] at hos
        rw [hev, hov]
        obtain ⟨b1, o1, rfl, hc1⟩ := (HWW.out.below hb).cells j hlt
        have HES := hid hes; have HOS := hid hos
        have HAL : Hid (alone ws j = (List.replicate ws.length 0).set j ws[j]) := hid (by show (List.replicate _ _).set j (ws.getD j 0) = _; rw [get_d hlt])
        obtain ⟨x, hx⟩ : ∃ x, ws[j] = x := ⟨_, rfl⟩
        rw [hx] at hc1 HOS HAL
        clear hes hos hev hov hb hx
        go_upto_region 15 with (first
          | (at_make; refine wpList_make_full _ rfl _ _ 29 rfl wr.heap.size 3 i0 (.int .i64 0) 1 Tryd.underlying29 hi0 hz0 hz1 .i64 .i64 _ _ ws.length rfl rfl rfl rfl (by rw [hz2]; omega) (by omega) (Nat.le_refl _) ?_; intro w5 hown0 hgrow0)
          | fail)
        have hbm : Below wr.heap.size wr w5 := (Below.refl _ _).grown hgrow0 (Nat.le_refl _) (fun k e => by cases e)
        have hI5 := made_ints hown0
        have hc5 := below_cell hbm _ _ hc1
        have x5 := hI5.cell (j := j) (by simpa using hlt)
        have f5 := hI5.free j
        have hst := hI5.set j x
        rw [← HAL.out] at hst
        have hB6 : Below w.heap.size w (w5.setCell ⟨wr.heap.size, j, none⟩ (.int .i64 x)) := (HB.out.trans (hbm.mono HB.out.size)).setCell (p := ⟨wr.heap.size, j, none⟩) HB.out.size _
        have hal := alone_len ws j
        have hF2 := pfits_any a c rs (some ⟨wr.heap.size, 0, none⟩) ws.length (alone ws j) (A : Int) (w5.setCell ⟨wr.heap.size, j, none⟩ (.int .i64 x)) (HRW.out.below hB6) (hst.ints (by rw [hal]; omega))
        obtain ⟨e5, e6⟩ := sumE_ok (alone_ok HRR.out hlt) HA2.out
        have e7 : fitN rs (alone ws j) A = fitW (alone ws j) (sumN rs ws.length A) := by unfold fitN; rw [hal]
        rw [e5, e6, e7, hal] at hF2
        have hc6 : (w5.setCell ⟨wr.heap.size, j, none⟩ (.int .i64 x)).cell? ⟨b1, o1 + j, none⟩ = some (.int .i64 x) := by
          have h9 : b1 < wr.heap.size := World.block_lt_of_cell? wr ⟨b1, o1 + j, none⟩ hc1
          rw [← hc5]
          exact cell_same (a := ⟨b1, o1 + j, none⟩) (set_far (show b1 ≠ wr.heap.size by omega) _)
        obtain ⟨fj, hfj⟩ : ∃ fj, fitW (alone ws j) (sumN rs ws.length A) = fj := ⟨_, rfl⟩
        rw [hfj] at hF2 HES
        have HF2 := hid hF2; have HB6 := hid hB6; have HC6 := hid hc6
        clear hF2 hB6 hc6 e5 e6 e7 hal hst hI5 hfj hbm hown0 hgrow0
        go_wp2_with fail
        refine HF2.out.mono ?_
        rintro e w7 ⟨rfl, hb7⟩
        have hc7 := below_cell hb7 _ _ HC6.out
        have HB7 := hid (HB6.out.trans (hb7.mono HB6.out.size))
        clear hb7 HF2 hc1 hc5
        cases ev <;> cases ov
        all_goals
          go_wp2_with fail
          go_roundw
          case rel => exact ⟨j + 1, by omega, by go_num, by rw [HES.out]; rfl, by rw [HOS.out]; rfl, HB7.out⟩
          case measure => simp [intOf]; omega
      · have e1 : j = ws.length := by omega
        subst e1
        have HE : Hid ((!((ws.zip (sumN rs ws.length A)).take ws.length).any fun p => offW p.1 p.2) = fa) := hid (by rw [List.take_of_length_le (by rw [List.length_zip]; omega)]; exact HFA.out)
        rw [HE.out, List.take_length]
        obtain ⟨ov, hov⟩ : ∃ ov, ws.any (fun x => x == 2) = ov := ⟨_, rfl⟩
        rw [hov] at HMF ⊢
        have hF3 := pfits_any a c rs b d ws (B : Int) wr (HRW.out.below hb) (HWW.out.below hb)
        rw [HE3.out, HE4.out] at hF3
        have HF3 := hid hF3
        clear hF3 hb hov
        go_wp2_with fail
        refine HF3.out.mono ?_
        rintro e w8 ⟨rfl, hb8⟩
        have HB8 := hid (HB.out.trans (hb8.mono HB.out.size))
        obtain ⟨fb, hfb⟩ : ∃ fb, fitN rs ws B = fb := ⟨_, rfl⟩
        rw [hfb] at HMF ⊢
        have HMM : Hid ((ov || (!fa || fb)) = true) := hid (by
          cases ov <;> cases fa <;> cases fb <;> simp
          exact absurd (HMF.out rfl rfl) (by decide))
        clear hb8 hfb HMF HF3
        cases ov <;> cases fa <;> cases fb
        all_goals
          go_wp2_with fail
          try go_ret
          first
            | exact ⟨rfl, HB8.out⟩
            | exact absurd HMM.out (by decide)
  · have hne : (R != 0) = true := by simpa using hz
    go_wp2_with fail
    go_ret
    exact ⟨rfl, HB2.out⟩
end Go.Proofs.YteakakonjfcpmaaDoor
