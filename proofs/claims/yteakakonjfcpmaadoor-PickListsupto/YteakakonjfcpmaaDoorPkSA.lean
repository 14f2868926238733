/- SameAll; the document's Picked. -/
import Derived.BigQuiet
import Derived.Test.YteakakonjfcpmaaDoorPkSame
namespace Go.Proofs.YteakakonjfcpmaaDoor
open Go.RowKit Go.Shelf

set_option maxRecDepth 100000 in
set_option maxHeartbeats 4000000 in
theorem sameAll_any (a : Option Addr) (c : Nat) (xs : List (List Int)) (b : Option Addr) (d : Nat) (ys : List (List Int)) (w : World) (hA : RowsAt w a xs) (hB : RowsAt w b ys) :
    Calls Tryd.prog 21 #[.slice a xs.length c, .slice b ys.length d] w fun e w' => e = .returned (.bool (decide (xs = ys))) ∧ Below w.heap.size w w' := by
  have HA := hid hA; have HB := hid hB
  have hs := hA.small; have hs' := hB.small
  have hmax : maxLen = 9223372036854775807 := rfl
  clear hA hB
  by_cases hl : xs.length = ys.length
  · obtain ⟨R, hR⟩ : ∃ R, decide (xs = ys) = R := ⟨_, rfl⟩
    rw [hR]
    have HR := hid hR; have HL := hid hl
    rw [← hl] at hs' ⊢
    have hne : ((xs.length : Int) != (xs.length : Int)) = false := by simp
    clear hR hl
    go_enter Tryd.func21, Tryd.ntmps21
    go_wp2_with fail
    go_loopw [5] (fun iv wr => ∃ j : Nat, j ≤ xs.length ∧ iv = .int .i64 j ∧ xs.take j = ys.take j ∧ Below w.heap.size w wr) (fun iv _ => xs.length - (intOf iv).toNat)
    case atStart => exact ⟨0, Nat.zero_le _, rfl, rfl, Below.refl _ _⟩
    case round =>
      obtain ⟨j, hj, rfl, hm, hb⟩ := hrel
      by_cases hlt : j < xs.length
      · have hlt' : j < ys.length := by have := HL.out; omega
        obtain ⟨b1, o1, p1, c1, rfl, hc, hr1⟩ := (HA.out.below hb.drew).cells j hlt
        obtain ⟨b2, o2, p2, c2, rfl, hd, hr2⟩ := (HB.out.below hb.drew).cells j hlt'
        have HN : Hid (xs[j] = ys[j] → xs.take (j + 1) = ys.take (j + 1)) := hid fun e => by rw [List.take_add_one, List.take_add_one, List.getElem?_eq_getElem hlt, List.getElem?_eq_getElem hlt', e, hm]
        have HX : Hid (xs[j] ≠ ys[j] → R = false) := hid fun e => by
          rw [← HR.out]
          exact decide_eq_false (fun e2 => e (by subst e2; rfl))
        have HSM := hid (same_any p1 c1 xs[j] p2 c2 ys[j] wr.drew hr1 hr2)
        obtain ⟨x, hx⟩ : ∃ x, xs[j] = x := ⟨_, rfl⟩
        obtain ⟨y, hy⟩ : ∃ y, ys[j] = y := ⟨_, rfl⟩
        rw [hx, hy] at HN HX HSM
        rw [hx] at hc
        rw [hy] at hd
        have HBB := hid hb
        clear hm hx hy hb hr1 hr2
        by_cases hxy : x = y
        · have HN2 := hid (HN.out hxy)
          rw [decide_eq_true hxy] at HSM
          clear HN HX hxy
          go_wp2_with fail
          go_region_with ((first
            | (go_at_call 14; refine Calls.mono HSM.out ?_; rintro e w3 ⟨rfl, hb3⟩; have HB3 := hid (HBB.out.drew.trans (hb3.mono HBB.out.size)); clear hb3)
            | fail))
          all_goals
            go_wp2_with fail
            go_roundw
            case rel => exact ⟨j + 1, by omega, by go_num, HN2.out, HB3.out⟩
            case measure => simp [intOf]; omega
        · have HX2 := hid (HX.out hxy)
          rw [decide_eq_false hxy] at HSM
          clear HN HX hxy
          go_wp2_with fail
          go_region_with ((first
            | (go_at_call 14; refine Calls.mono HSM.out ?_; rintro e w3 ⟨rfl, hb3⟩; have HB3 := hid (HBB.out.drew.trans (hb3.mono HBB.out.size)); clear hb3)
            | fail))
          all_goals
            go_wp2_with fail
            go_ret
            exact ⟨by rw [HX2.out]; rfl, HB3.out⟩
      · have e1 : j = xs.length := by omega
        have HF : Hid (R = true) := hid (by
          rw [← HR.out]
          refine decide_eq_true ?_
          rw [e1, List.take_length, HL.out, List.take_length] at hm
          exact hm)
        have HBB := hid hb
        clear hm hb
        go_wp2_with fail
        go_ret
        exact ⟨by rw [HF.out]; rfl, HBB.out⟩
  · have hne : ((xs.length : Int) != (ys.length : Int)) = true := by simp; omega
    have HF : Hid (decide (xs = ys) = false) := hid (decide_eq_false (fun e => hl (by rw [e])))
    go_enter Tryd.func21, Tryd.ntmps21
    go_wp2_with fail
    go_ret
    exact ⟨by rw [HF.out]; rfl, Below.refl _ _⟩
theorem pickTo_end {m : Int} {rs : List (List Int)} (h0 : 0 ≤ m) (h1 : m < 4294967296) : ∀ j, 32 ≤ j → pickTo m rs j = pickTo m rs 32
  | j, hj => by
    induction j with
    | zero => omega
    | succ j ih =>
      by_cases he : j + 1 = 32
      · rw [he]
      · obtain ⟨M, rfl⟩ := Int.eq_ofNat_of_zero_le h0
        have hb : hasB (M : Int) j = false := by
          rw [hasB_bit M j (by omega)]
          exact Nat.testBit_lt_two_pow (Nat.lt_of_lt_of_le (show M < 2 ^ 32 by omega) (Nat.pow_le_pow_right (by omega) (by omega)))
        conv => lhs; unfold pickTo
        rw [hb, if_neg (by decide)]
        exact ih (by omega)
set_option maxRecDepth 100000 in
set_option maxHeartbeats 4000000 in
theorem rpicked_any (a : Option Addr) (c : Nat) (rs : List (List Int)) (m : Int) (w : World) (hR : RowsAt w a rs) (hN : ∀ i (hi : i < rs.length), ∃ b o q c, a = some ⟨b, o, none⟩ ∧ w.cell? ⟨b, o + i, none⟩ = some (.slice q rs[i].length c) ∧ IntsAt w q rs[i] ∧ (q = none → c = 0)) (hn : rs.length ≤ 1048576) (hr : ∀ r ∈ rs, r.length ≤ 1048576) (h0 : 0 ≤ m) (h1 : m < 4294967296) :
    Calls Tryd.prog 22 #[.slice a rs.length c, .int .u32 m] w fun e w' => ∃ v, e = .returned v ∧ PRows w' w.heap.size v (pickTo m rs rs.length) ∧ Below w.heap.size w w' := by
  obtain ⟨i0, hi0, hz0, hz1, hz2⟩ := info_parts Tryd.info29
  have HR := hid hR; have HN := hid hr; have HNN := hid hN
  have hmax : maxLen = 9223372036854775807 := rfl
  have HO1 := hid fun i => has_one m i h0 h1
  have HPE := hid (fun j => pickTo_end (rs := rs) h0 h1 j)
  clear hR hr hN
  go_enter Tryd.func22, Tryd.ntmps22
  go_wp2_with fail
  go_loopw [5, 6] (fun lv iv wr => ∃ (j : Nat), j ≤ rs.length ∧ j ≤ 32 ∧ iv = .int .i64 j ∧ PRows wr w.heap.size lv (pickTo m rs j) ∧ Below w.heap.size w wr) (fun _ iv _ => rs.length - (intOf iv).toNat)
  case atStart => exact ⟨0, Nat.zero_le _, Nat.zero_le _, rfl, ⟨[], OwnZ.nil _ _ _ _, rfl, fun i hi => absurd hi (Nat.not_lt_zero i)⟩, Below.refl _ _⟩
  case round =>
    obtain ⟨j, hj, hj32, rfl, hP, hb⟩ := hrel
    have HP := hid hP; have HB := hid hb
    by_cases hlt : j < rs.length
    · by_cases h32 : j < 32
      · obtain ⟨b1, o1, p1, c1, rfl, hc0, hrow0, hnil⟩ := HNN.out j hlt
        have hc := below_cell hb _ _ hc0
        have hrow := hrow0.below hb
        have hmem : rs[j] ∈ rs := List.getElem_mem hlt
        have hgd : rs.getD j [] = rs[j] := by rw [List.getD_eq_getElem?_getD, List.getElem?_eq_getElem hlt]; rfl
        have HSU : Hid (pickTo m rs (j + 1) = if hasB m j = true then pickTo m rs j ++ [rs[j]] else pickTo m rs j) := hid (by conv => lhs; unfold pickTo; rw [hgd])
        have hrl := HN.out _ hmem
        obtain ⟨r, hr⟩ : ∃ r, rs[j] = r := ⟨_, rfl⟩
        rw [hr] at hc HSU hrow hrl
        have hone := HO1.out j
        rw [Nat.min_eq_left (by omega)] at hone
        obtain ⟨bv, hbv⟩ : ∃ bv, hasB m j = bv := ⟨_, rfl⟩
        rw [hbv] at hone HSU
        obtain ⟨vs, hzz, hlv, hrs⟩ := hP
        have HZ := hid hzz; have HLV := hid hlv; have HRS := hid hrs
        have hpl := pickTo_len m rs j
        clear hb hmem hgd hr hbv hzz hrs hc0 hrow0
        cases bv
        · clear hrow
          go_wp2_with fail
          go_roundw
          case rel => exact ⟨j + 1, by omega, by omega, by go_num, by rw [HSU.out]; exact HP.out, HB.out⟩
          case measure => simp [intOf]; omega
        · have hvl : vs.length ≤ 1048576 := by omega
          have bE := alloc_below0 wr (.cells #[] 3)
          have hE : (wr.alloc (.cells #[] 3)).ownsRow wr.heap.size 3 1 (.slice (some ⟨wr.heap.size, 0, none⟩) 0 0) 0 [] := ⟨rfl, .inr ⟨wr.heap.size, 0, #[], rfl, Nat.le_refl _, World.alloc_heap_new wr _, Nat.le_refl _, Nat.zero_le _, rfl, rfl⟩⟩
          obtain ⟨q, d, w3, hr3, hA3, hG3⟩ := run_appI 29 wr.heap.size _ 0 [] _ hE p1 r.length c1 (cAll r) (src_i c1 (hrow.below bE) hnil) (cAll_one r) (by omega) bE.size
          have hb3 : Below wr.heap.size wr w3 := bE.trans ((fr_grown hG3).below (fun k hk => by have h7 : some wr.heap.size = some k := hk; have := Option.some.inj h7; omega) bE.size)
          rw [Nat.zero_add] at hr3 hA3
          rw [List.nil_append] at hA3
          have hc3 : CRow w3 wr.heap.size q d r := hA3
          have hcc := below_cell bE _ _ hc
          obtain ⟨g, cap, w4, hr4, hz4, hf4⟩ := app_one 27 27 29 i0 _ 24 Tryd.underlying27 hi0 hz0 hz1 hz2 rfl w.heap.size u5 vs (.slice q r.length d) w3 (HZ.out.below hb3) rfl (by omega) (by omega) (Nat.le_trans HB.out.size hb3.size)
          have HP4 := hid (PRows.add HZ.out HLV.out HRS.out hb3 (hc3.mono HB.out.size) hz4 hf4)
          have HB4 : Hid (Below w.heap.size w w4) := hid ((HB.out.trans (hb3.mono HB.out.size)).trans (hf4.below (fun k hk => (HZ.out.lt hk).1) (Nat.le_trans HB.out.size hb3.size)))
          clear hc3 hb3 hz4 hf4 hA3 hG3 hE bE hrow hlv
          go_wp2_with (first
            | (at_builtin; refine Lib.wpList_append_run _ rfl (.tmp 23) _ _ _ rfl _ _ rfl rfl _ _ hr3 ?_; clear hr3)
            | (at_builtin; refine Lib.wpList_append_run _ rfl (.tmp 22) _ _ _ rfl _ _ rfl rfl _ _ hr4 ?_; clear hr4)
            | fail)
          go_roundw
          case rel => exact ⟨j + 1, by omega, by omega, by go_num, by rw [HSU.out]; have h9 := HP4.out; rw [List.length_append, List.length_singleton] at h9; exact h9, HB4.out⟩
          case measure => simp [intOf]; omega
      · have e1 : j = 32 := by omega
        have HE : Hid (pickTo m rs rs.length = pickTo m rs j) := hid (by rw [e1]; exact HPE.out _ (by omega))
        clear hP hb
        go_wp2_with fail
        go_ret
        exact ⟨_, rfl, by rw [HE.out]; exact HP.out, HB.out⟩
    · have e1 : j = rs.length := by omega
      rw [e1] at HP
      clear hP hb
      go_wp2_with fail
      go_ret
      exact ⟨_, rfl, HP.out, HB.out⟩
end Go.Proofs.YteakakonjfcpmaaDoor
