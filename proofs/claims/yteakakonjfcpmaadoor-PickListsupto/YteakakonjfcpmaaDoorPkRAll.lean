/- The document's All and List. -/
import Derived.Test.YteakakonjfcpmaaDoorPkSA
namespace Go.Proofs.YteakakonjfcpmaaDoor
open Go.RowKit Go.Shelf

/-- The masks below one that fit. -/
def fitTo (rs : List (List Int)) (ws : List Int) (M : Nat) : List Nat := (List.range M).filter (fitN rs ws)
theorem fitTo_len (rs : List (List Int)) (ws : List Int) (M : Nat) : (fitTo rs ws M).length ≤ M := by
  unfold fitTo
  refine Nat.le_trans (List.length_filter_le _ _) ?_
  simp
theorem fitTo_succ (rs : List (List Int)) (ws : List Int) (M : Nat) : fitTo rs ws (M + 1) = fitTo rs ws M ++ (if fitN rs ws M = true then [M] else []) := by
  unfold fitTo
  rw [List.range_succ, List.filter_append]
  congr 1
  rw [List.filter_cons]
  split <;> simp
theorem fitTo_all (rs : List (List Int)) (ws : List Int) : fitTo rs ws (2 ^ rs.length) = fitL rs ws := by
  unfold fitTo fitL fromM
  rw [Nat.sub_zero, List.range_eq_range']
set_option maxRecDepth 100000 in
set_option maxHeartbeats 8000000 in
theorem rall_any (a : Option Addr) (c : Nat) (rs : List (List Int)) (b : Option Addr) (d : Nat) (ws : List Int) (w : World) (hR : RowsAt w a rs) (hW : IntsAt w b ws) :
    Calls Tryd.prog 27 #[.slice a rs.length c, .slice b ws.length d, .int .i64 65536] w fun e w' => ∃ v, e = .returned v ∧ OwnZ w' w.heap.size 32 (.int .u32 0) v (mAll (if pkE rs ws = 0 then fitL rs ws else [])) ∧ Below w.heap.size w w' := by
  obtain ⟨i0, hi0, hz0, hz1, hz2⟩ := info_parts Tryd.info32
  have HCK := hid (rcheck_any a c rs b d ws w hR hW)
  have HR := hid hR; have HW := hid hW
  have hs1 := hR.small; have hs2 := hW.small
  have hmax : maxLen = 9223372036854775807 := rfl
  clear hR hW
  obtain ⟨R, hRR⟩ : ∃ R, pkE rs ws = R := ⟨_, rfl⟩
  rw [hRR] at HCK
  have HRR := hid hRR
  rw [hRR]
  clear hRR
  obtain ⟨L, hL⟩ : ∃ L, (if R = 0 then fitL rs ws else []) = L := ⟨_, rfl⟩
  rw [hL]
  have HL := hid hL
  clear hL
  go_enter Tryd.func27, Tryd.ntmps27
  go_wp2_with fail
  refine HCK.out.mono ?_
  rintro e w1 ⟨rfl, rfl⟩
  clear HCK
  by_cases h0 : R = 0
  · subst h0
    have HL2 : Hid (L = fitL rs ws) := hid (by rw [← HL.out, if_pos rfl])
    clear HL
    have OK := hid (pkE_ok HRR.out)
    have hf16 := OK.out.few; have hw10 := OK.out.wide
    obtain ⟨hm1, _⟩ := all_mask rs.length hf16
    have hk : 2 ^ rs.length ≤ 65536 := Nat.pow_le_pow_right (n := 2) (by omega) hf16
    have HAL := hid (fitTo_all rs ws)
    obtain ⟨x2, hx2⟩ : ∃ x2, ((2 ^ rs.length : Nat) : Int) = x2 := ⟨_, rfl⟩
    rw [hx2] at hm1
    have HX2 := hid hx2
    clear hx2
    go_wp2_with fail
    go_loopw [8, 9] (fun lv mk wr => ∃ M : Nat, mk = .int .u32 M ∧ M ≤ 2 ^ rs.length ∧ OwnZ wr w1.heap.size 32 (.int .u32 0) lv (mAll (fitTo rs ws M)) ∧ Below w1.heap.size w1 wr) (fun _ mk _ => 2 ^ rs.length - (intOf mk).toNat)
    case atStart => exact ⟨0, rfl, Nat.zero_le _, OwnZ.nil _ _ _ _, Below.refl _ _⟩
    case round =>
      obtain ⟨M, rfl, hM, hz, hb⟩ := hrel
      have HZ := hid hz; have HB := hid hb
      obtain ⟨p8, c8, hu8⟩ := hz.form
      subst hu8
      have hlen := fitTo_len rs ws M
      rw [mAll_len] at hz HZ ⊢
      by_cases hlt : M < 2 ^ rs.length
      · have hdx : (decide ((M : Int) < x2)) = true := decide_eq_true (by have := HX2.out; omega)
        have hl5 : ((fitTo rs ws M).length : Int) < 65536 := by omega
        have HAD := hid (radd_any a c rs ws.length (M : Int) wr (HR.out.below hb) OK.out (by omega) (by omega))
        have HSU := hid (fitTo_succ rs ws M)
        have hsl := sumN_len (M := M) OK.out
        obtain ⟨fv, hfv⟩ : ∃ fv, fitN rs ws M = fv := ⟨_, rfl⟩
        rw [hfv] at HSU
        have HFV := hid hfv
        obtain ⟨n8, hn8⟩ : ∃ n8, (fitTo rs ws M).length = n8 := ⟨_, rfl⟩
        rw [hn8] at hl5 hlen HZ ⊢
        have HN8 := hid hn8
        have hwM : IntKind.u32.wrap ((M : Int) + 1) = ((M + 1 : Nat) : Int) := by rw [IntKind.wrap_u32']; omega
        clear hz hb hfv hn8
        go_wp2_with fail
        refine HAD.out.mono ?_
        rintro e w2 ⟨V, hV, rfl, hI, hb2⟩
        have HB2 := hid (HB.out.trans (hb2.mono HB.out.size))
        have HZ2 := hid (HZ.out.below hb2)
        have hFI := rfits_any (some ⟨V, 0, none⟩) ws.length (sumN rs ws.length M) b d ws w2 (IRow.ints hI (by show (sumN rs ws.length M).length ≤ maxLen; omega)) (HW.out.below HB2.out) hsl
        rw [hsl] at hFI
        have HFI := hid hFI
        rw [show fitW ws (sumN rs ws.length M) = fv from HFV.out] at HFI
        clear hV hI hb2 hFI HAD HZ HFV
        go_wp2_with fail
        refine HFI.out.mono ?_
        rintro e w3 ⟨rfl, rfl⟩
        clear HFI
        cases fv with
        | false =>
          rw [if_neg (by decide), List.append_nil] at HSU
          go_wp2_with fail
          go_roundw
          case rel => exact ⟨M + 1, rfl, hlt, by rw [HSU.out, ← HN8.out] at *; exact HZ2.out, HB2.out⟩
          case measure => simp [intOf]; omega
        | true =>
          rw [if_pos rfl] at HSU
          obtain ⟨g, cap, w4, hr4, hz4, hf4⟩ := app_one 23 23 32 i0 _ 4 Tryd.underlying23 hi0 hz0 hz1 hz2 rfl w1.heap.size (.slice p8 n8 c8) (mAll (fitTo rs ws M)) (.int .u32 M) w3 HZ2.out rfl (by rw [mAll_len, HN8.out]; omega) (by rw [mAll_len, HN8.out]; omega) HB2.out.size
          have hl4 : (mAll (fitTo rs ws M) ++ [Value.int .u32 M]).length = n8 + 1 := by rw [List.length_append, mAll_len, HN8.out]; rfl
          have hm4 : mAll (fitTo rs ws M) ++ [Value.int .u32 M] = mAll (fitTo rs ws (M + 1)) := by rw [HSU.out]; simp [mAll]
          rw [hl4] at hr4 hz4
          rw [hm4] at hz4
          have HZ4 := hid hz4
          have HB4 := hid (HB2.out.trans (hf4.below (fun k hk => (HZ2.out.lt hk).1) HB2.out.size))
          clear hl4 hm4 hz4 hf4
          go_wp2_with (first
            | (at_builtin; refine Lib.wpList_append_run _ rfl _ _ _ _ rfl _ _ rfl rfl _ _ hr4 ?_; clear hr4)
            | fail)
          go_roundw
          case rel => exact ⟨M + 1, rfl, hlt, HZ4.out, HB4.out⟩
          case measure => simp [intOf]; omega
      · have hdx : (decide ((M : Int) < x2)) = false := decide_eq_false (by have := HX2.out; omega)
        have e1 : fitTo rs ws M = fitL rs ws := by rw [show M = 2 ^ rs.length by omega]; exact HAL.out
        have HZ3 : Hid (OwnZ wr w1.heap.size 32 (.int .u32 0) (.slice p8 (fitTo rs ws M).length c8) (mAll (fitL rs ws))) := hid (by rw [← e1]; exact HZ.out)
        clear hz hb HZ e1
        go_wp2_with fail
        go_ret
        exact ⟨_, rfl, by rw [HL2.out]; exact HZ3.out, HB.out⟩
  · have HL2 : Hid (L = []) := hid (by rw [← HL.out, if_neg h0])
    have hne : (R != 0) = true := by simpa using h0
    go_wp2_with fail
    go_ret
    exact ⟨_, rfl, by rw [HL2.out]; exact OwnZ.nil _ _ _ _, Below.refl _ _⟩
set_option maxRecDepth 100000 in
set_option maxHeartbeats 8000000 in
theorem rlist_any (a : Option Addr) (c : Nat) (rs : List (List Int)) (b : Option Addr) (d : Nat) (ws : List Int) (most : Int) (w : World) (hR : RowsAt w a rs) (hW : IntsAt w b ws) :
    Calls Tryd.prog 25 #[.slice a rs.length c, .slice b ws.length d, .int .i64 most] w (ListEnd rs ws most w) := by
  have HCK := hid (rcheck_any a c rs b d ws w hR hW)
  have HAL := hid (rall_any a c rs b d ws w hR hW)
  have hs1 := hR.small; have hs2 := hW.small
  have hmax : maxLen = 9223372036854775807 := rfl
  clear hR hW
  obtain ⟨R, hRR⟩ : ∃ R, pkE rs ws = R := ⟨_, rfl⟩
  rw [hRR] at HCK HAL
  have HRR := hid hRR
  clear hRR
  go_enter Tryd.func25, Tryd.ntmps25
  go_wp2_with fail
  refine HCK.out.mono ?_
  rintro e w1 ⟨rfl, rfl⟩
  clear HCK
  by_cases h0 : R = 0
  · subst h0
    rw [if_pos rfl] at HAL
    by_cases hm : most < 0
    · have HM := hid hm
      go_wp2_with fail
      go_ret2
      have hE : listE rs ws most = 1 := by unfold listE; rw [HRR.out, if_neg (by decide), if_pos HM.out]
      exact ⟨Below.refl _ _, .inl ⟨by rw [hE]; decide, by rw [hE]; rfl⟩⟩
    · have HM : Hid (0 ≤ most) := hid (by omega)
      go_wp2_with fail
      refine HAL.out.mono ?_
      rintro e w2 ⟨v, rfl, hz, hb⟩
      obtain ⟨p, c2, rfl⟩ := hz.form
      have HZ := hid hz; have HB := hid hb
      rw [mAll_len] at HZ ⊢
      obtain ⟨n, hn⟩ : ∃ n, (fitL rs ws).length = n := ⟨_, rfl⟩
      rw [hn] at HZ ⊢
      have HN := hid hn
      clear hz hb hn
      by_cases hg : most < (n : Int)
      · have HG := hid hg
        go_wp2_with fail
        go_ret2
        have hE : listE rs ws most = 2 := by unfold listE; rw [HRR.out, if_neg (by decide), if_neg (by have := HM.out; omega), HN.out, if_pos HG.out]
        exact ⟨HB.out, .inl ⟨by rw [hE]; decide, by rw [hE]; rfl⟩⟩
      · have HG : Hid ((n : Int) ≤ most) := hid (by omega)
        go_wp2_with fail
        go_ret2
        have hE : listE rs ws most = 0 := by unfold listE; rw [HRR.out, if_neg (by decide), if_neg (by have := HM.out; omega), HN.out, if_neg (by have := HG.out; omega)]
        exact ⟨HB.out, .inr ⟨hE, _, rfl, HZ.out⟩⟩
  · have hne : (R != 0) = true := by simpa using h0
    have H0 := hid h0
    go_wp2_with fail
    go_ret2
    have hE : listE rs ws most = R := by unfold listE; rw [HRR.out, if_pos H0.out]
    exact ⟨Below.refl _ _, .inl ⟨by rw [hE]; exact H0.out, by rw [hE]; rfl⟩⟩
end Go.Proofs.YteakakonjfcpmaaDoor
