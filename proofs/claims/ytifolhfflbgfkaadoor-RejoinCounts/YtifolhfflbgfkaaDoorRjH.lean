/- The law's walk. -/
import Derived.Test.YtifolhfflbgfkaaDoorRjG
import Derived.Test.YtifolhfflbgfkaaDoorLater
namespace Go.Proofs.YtifolhfflbgfkaaDoor
open Go.RowKit Go.Sort

theorem name_size (n : Int) (h0 : -9223372036854775808 ≤ n) (h1 : n ≤ 9223372036854775807) : (strB (nameL n)).size ≤ 9223372036854775807 := by
  show (nameL n).toArray.size ≤ _
  rw [List.size_toArray]
  unfold nameL
  split
  · simp
  · have := itoa_short n h0 h1
    rw [List.length_cons]; omega

theorem not_empty {s : ByteArray} (h : (s.toList == (ByteArray.mk #[]).toList) = false) : ¬ s.toList = [] := fun h2 => by
  rw [h2, Lib.toList_data (ByteArray.mk #[])] at h
  exact absurd h (by decide)
theorem below3 {w a b c d : World} (h0 : Below w.heap.size w a) (h1 : Below a.heap.size a b) (h2 : Below b.heap.size b c) (h3 : Below c.heap.size c d) : Below w.heap.size w d := by
  have h01 := h0.trans (h1.mono h0.size)
  have h02 := h01.trans (h2.mono h01.size)
  exact h02.trans (h3.mono h02.size)

set_option maxRecDepth 100000 in
set_option maxHeartbeats 4000000 in
theorem counts_walk (p q : Option Addr) (c d : Nat) (ns : List Int) (ss : List ByteArray) (w : World) (hN : IntsAt w p ns) (hS : TextsAt w q ss) (hs : Std w) :
    Calls Tryd.prog 3 #[.slice p ns.length c, .slice q ss.length d] w fun e w' => e = .returned (.bool true) ∧ Below w.heap.size w w' := by
  have HN := hid hN; have HS := hid hS; have HST := hid hs
  have hmax : maxLen = 9223372036854775807 := rfl
  have hn2 := hN.small
  have hs2 := hS.small
  clear hN hS hs
  go_enter Tryd.func3, Tryd.ntmps3
  go_wp2_with (go_at_call 4; refine (lives_any _ HST.out).mono ?_; rintro e w0 ⟨rfl, hb0⟩)
  go_loopw [6] (fun iv wr => ∃ j : Nat, j ≤ ns.length ∧ iv = .int .i64 j ∧ Below w.heap.size w wr) (fun iv _ => ns.length - (intOf iv).toNat)
  case atStart => exact ⟨0, Nat.zero_le _, rfl, hb0⟩
  case round =>
    obtain ⟨j, hj, rfl, hbr⟩ := hrel
    have HB := hid hbr
    clear hbr hb0
    by_cases hlt : j < ns.length
    · obtain ⟨b2, o2, rfl, hc2, hr0, hr1⟩ := (HN.out.below HB.out).cells j hlt
      obtain ⟨n, hn⟩ : ∃ n, ns[j] = n := ⟨_, rfl⟩
      rw [hn] at hc2 hr0 hr1
      clear hn
      have HS1 := hid (HST.out.below HB.out HST.out.pos)
      have hz : (strB (nameL n)).size ≤ 9223372036854775807 := name_size n hr0 hr1
      have HZ := hid hz
      rcases cnt_case n with ⟨ho, hE⟩ | ⟨hE, ho⟩
      · have HO : Hid (numV (numP (strB (nameL n)).data.toList) = .tuple #[.int .i64 n, .bool true]) := by
          show numV (numP (nameL n)) = _
          rw [ho]; rfl
        have hq1 : ¬ (strB (nameL n)).toList = [] := not_empty hE
        have hq2 : (strB (nameL n)).toList.isEmpty = false := by
          rw [List.isEmpty_eq_false_iff]; exact hq1
        clear ho hz hE
        go_wp2_with (first
          | (go_at_call 5; refine (pname_any n hr0 hr1 _ HS1.out).mono ?_; rintro e w1 ⟨rfl, hb1⟩; have hc3 := below_cell hb1 _ _ hc2; have HS2 := hid (HS1.out.below hb1 HS1.out.pos))
          | (go_at_call 6; refine (pnum_any _ HZ.out _ HS2.out).mono ?_; rintro e w2 ⟨rfl, hb2⟩; rw [HO.out]; have hc4 := below_cell hb2 _ _ hc3; have HS3 := hid (HS2.out.below hb2 HS2.out.pos))
          | (go_at_call 7; refine (rname_any n hr0 hr1 _ HS3.out).mono ?_; rintro e w3 ⟨rfl, hb3⟩; have hc5 := below_cell hb3 _ _ hc4))
        have h13 := below3 HB.out hb1 hb2 hb3
        exact ⟨⟨j + 1, by omega, rfl, h13⟩, by show ns.length - ((j : Int) + 1).toNat < ns.length - ((j : Int)).toNat; omega⟩
      · have HO : Hid (numV (numP (ByteArray.mk #[]).data.toList) = .tuple #[.int .i64 0, .bool false]) := by
          show numV (numP []) = _
          rfl
        have HE : Hid (strB (nameL n) = ByteArray.mk #[]) := by
          show strB (nameL n) = _
          rw [hE]; rfl
        clear ho hz hE
        go_wp2_with (first
          | (go_at_call 5; refine (pname_any n hr0 hr1 _ HS1.out).mono ?_; rintro e w1 ⟨rfl, hb1⟩; rw [HE.out]; have hc3 := below_cell hb1 _ _ hc2; have HS2 := hid (HS1.out.below hb1 HS1.out.pos))
          | (go_at_call 6; refine (pnum_any _ (by decide) _ HS2.out).mono ?_; rintro e w2 ⟨rfl, hb2⟩; rw [HO.out]; have hc4 := below_cell hb2 _ _ hc3; have HS3 := hid (HS2.out.below hb2 HS2.out.pos))
          | (go_at_call 7; refine (rname_any n hr0 hr1 _ HS3.out).mono ?_; rintro e w3 ⟨rfl, hb3⟩; rw [HE.out]; have hc5 := below_cell hb3 _ _ hc4))
        have h13 := below3 HB.out hb1 hb2 hb3
        exact ⟨⟨j + 1, by omega, rfl, h13⟩, by show ns.length - ((j : Int) + 1).toNat < ns.length - ((j : Int)).toNat; omega⟩
    · have hje : j = ns.length := by omega
      subst hje
      clear HN
      rename World => w5
      go_wp2_with fail
      go_loopw [10] (fun iv wr => ∃ j : Nat, j ≤ ss.length ∧ iv = .int .i64 j ∧ Below w.heap.size w wr) (fun iv _ => ss.length - (intOf iv).toNat)
      case atStart => exact ⟨0, Nat.zero_le _, rfl, HB.out⟩
      case round =>
        obtain ⟨j, hj, rfl, hbr⟩ := hrel
        clear HB
        have HB := hid hbr
        clear hbr
        by_cases hlt : j < ss.length
        · obtain ⟨b2, o2, rfl, hc2, hr0⟩ := (HS.out.below HB.out).cells j hlt
          obtain ⟨s, hn⟩ : ∃ n, ss[j] = n := ⟨_, rfl⟩
          rw [hn] at hc2 hr0
          clear hn
          have HZ : Hid (s.size ≤ 9223372036854775807) := hid (hmax ▸ hr0)
          have HS1 := hid (HST.out.below HB.out HST.out.pos)
          have HR : Hid (numV ((numL s.data.toList).map fun (u : Nat) => (u : Int)) = numV (numP s.data.toList)) := hid (by rw [num_same])
          cases ho : numP s.data.toList with
          | none =>
            have HO : Hid (numV (numP s.data.toList) = .tuple #[.int .i64 0, .bool false]) := hid (by rw [ho]; rfl)
            clear ho
            go_wp2_with (first
              | (go_at_call 6; refine (pnum_any _ HZ.out _ HS1.out).mono ?_; rintro e w1 ⟨rfl, hb1⟩; rw [HO.out]; have hc3 := below_cell hb1 _ _ hc2)
              | (go_at_call 8; refine (rnum_any _ _).mono ?_; rintro e w2 ⟨rfl, hw2⟩; subst hw2; rw [HR.out, HO.out]))
            have H13 := hid (HB.out.trans (hb1.mono HB.out.size))
            have hls := later_some w2
            have d1 := later_cell hc3
            clear hb1
            go_wp2_with fail
            refine wp_region_later (by kernel_rfl) (by kernel_rfl) ?_
            repeat (go_big_quiet_step (fail))
            refine wpQuiet_nil ?_
            intro _ hw'
            obtain ⟨b3, hw''⟩ := hw'
            subst hw''
            have H14 := hid (H13.out.trans (b3.below.mono H13.out.size))
            clear d1
            go_wp2
            go_roundw
            case rel => exact ⟨j + 1, by omega, by go_num, H14.out⟩
            case measure => simp [intOf]; omega
          | some m =>
            have HO : Hid (numV (numP s.data.toList) = .tuple #[.int .i64 m, .bool true]) := hid (by rw [ho]; rfl)
            obtain ⟨h1, h2, h3⟩ := num_back ho
            have HE : Hid (strB (nameL m) = s) := hid (str_eq h1)
            clear ho h1
            go_wp2_with (first
              | (go_at_call 6; refine (pnum_any _ HZ.out _ HS1.out).mono ?_; rintro e w1 ⟨rfl, hb1⟩; rw [HO.out]; have hc3 := below_cell hb1 _ _ hc2; have HS2 := hid (HS1.out.below hb1 HS1.out.pos))
              | (go_at_call 8; refine (rnum_any _ _).mono ?_; rintro e w2 ⟨rfl, hw2⟩; subst hw2; rw [HR.out, HO.out]))
            have H13 := hid (HB.out.trans (hb1.mono HB.out.size))
            have HD : Hid (∀ v : World, Below w2.heap.size w2 v → Calls Tryd.prog 5 #[.int .i64 m] v fun e w' => e = .returned (.string s) ∧ Below v.heap.size v w') := hid (fun v hv => by
              refine (pname_any m (by omega) (by omega) v (HS2.out.below hv HS2.out.pos)).mono ?_
              rintro e w3 ⟨rfl, hb3⟩
              exact ⟨by rw [HE.out], hb3⟩)
            have hls := later_some w2
            have d1 := later_cell hc3
            clear hb1
            go_wp2_with fail
            refine wp_region_later (by kernel_rfl) (by kernel_rfl) ?_
            repeat (go_big_quiet_step (first | (go_at_call 5; with_reducible refine calls_later (HD.out _ ?_); exact Later.below _) | fail))
            refine wpQuiet_nil ?_
            intro _ hw'
            obtain ⟨b3, hw''⟩ := hw'
            subst hw''
            have H14 := hid (H13.out.trans (b3.below.mono H13.out.size))
            clear d1
            go_wp2
            go_roundw
            case rel => exact ⟨j + 1, by omega, by go_num, H14.out⟩
            case measure => simp [intOf]; omega
        · have hje : j = ss.length := by omega
          subst hje
          clear HS
          go_wp2_with fail
          go_ret
          exact ⟨rfl, HB.out⟩
end Go.Proofs.YtifolhfflbgfkaaDoor
