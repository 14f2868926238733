import Derived.BigQuiet
import Derived.Test.YtgidgmgpgfonnaaGreatKSBoth
/- What the document's Same of binds, In and Restrict answer; what spoil of binds does. -/
namespace Go.Proofs.YtgidgmgpgfonnaaGreat
open Go.RowKit Go.Deep

set_option maxRecDepth 100000 in
set_option maxHeartbeats 4000000 in
/-- The document's Same of binds. -/
theorem rsameb_any (pa : Option Addr) (ca : Nat) (as' : List Bn) (pb : Option Addr) (cb : Nat) (bs : List Bn) (w : World) (hA : BindsAt w pa as'.length as') (hB : BindsAt w pb bs.length bs) :
    Calls Tryz.prog 14 #[.slice pa as'.length ca, .slice pb bs.length cb] w fun e w' => e = .returned (.bool (sameA as' bs)) ∧ Below w.heap.size w w' := by
  have HA := hid hA; have HB := hid hB
  have hna : as'.length ≤ 9223372036854775807 := hA.small
  have hnb : bs.length ≤ 9223372036854775807 := hB.small
  clear hA hB
  by_cases hl : as'.length = bs.length
  · obtain ⟨R, hR⟩ : ∃ R, sameA as' bs = R := ⟨_, rfl⟩
    rw [hR]
    have HR := hid hR
    have HLN := hid hl
    obtain ⟨n, hn⟩ : ∃ n, bs.length = n := ⟨_, rfl⟩
    rw [hn] at hl hnb ⊢
    rw [hl]
    have HN := hid hn
    clear hR hn hl hna
    go_enter Tryz.func14, Tryz.ntmps14
    go_wp2_with fail
    go_loopw [5, 6] (fun iv _ wr => ∃ j : Nat, j ≤ n ∧ iv = .int .i64 j ∧ sameA (as'.drop j) (bs.drop j) = R ∧ Below w.heap.size w wr) (fun iv _ _ => n - (intOf iv).toNat)
    case atStart => exact ⟨0, Nat.zero_le _, rfl, HR.out, Below.refl _ _⟩
    case round =>
      obtain ⟨j, hj, rfl, hs, hlow⟩ := hrel
      have HW := hid hlow
      clear hlow
      by_cases hlt : j < n
      · have hja : j < as'.length := by rw [HLN.out, HN.out]; exact hlt
        have hjb : j < bs.length := by rw [HN.out]; exact hlt
        rw [sameA_step hja hjb] at hs
        obtain ⟨b1, o1, a1, c1, rfl, hbd⟩ := (HA.out.below HW.out).cells j hja
        obtain ⟨b2, o2, a2, c2, rfl, hbd2⟩ := (HB.out.below HW.out).cells j hjb
        obtain ⟨⟨vx, ⟨x, l⟩⟩, hy⟩ : ∃ y, as'[j] = y := ⟨_, rfl⟩
        obtain ⟨⟨vy, ⟨y, m⟩⟩, hy2⟩ : ∃ y, bs[j] = y := ⟨_, rfl⟩
        rw [hy] at hbd hs
        rw [hy2] at hbd2 hs
        unfold same1 at hs
        dsimp only at hs
        have HS := hid hs
        have HBD := hid hbd; have HBD2 := hid hbd2
        obtain ⟨cv, hcv⟩ : ∃ cv, (cmpN (x, l) (y, m) == 0) = cv := ⟨_, rfl⟩
        have hC : Hid (∀ w', Below wr.heap.size wr w' → Calls Tryz.prog 37 #[.agg #[.string x.1, .int .i64 x.2, .slice a1 (lenF l) c1], .agg #[.string y.1, .int .i64 y.2, .slice a2 (lenF m) c2]] w' fun e w'' => e = .returned (.bool cv) ∧ Below w'.heap.size w' w'') := hid fun w' hb => by
          rw [← hcv]
          exact rsame_any (x, l) (y, m) a1 a2 c1 c2 w' (HBD.out.tm.below hb) (HBD2.out.tm.below hb)
        rw [hcv] at HS
        have hne := later_some wr
        have p1 := later_cell hbd.name; have p2 := later_cell hbd.sym; have p3 := later_cell hbd.list
        have q1 := later_cell hbd2.name; have q2 := later_cell hbd2.sym; have q3 := later_cell hbd2.list
        dsimp only at p1 p2 p3 q1 q2 q3
        have hk0 : (0 : Int) ≤ (j : Int) := by omega
        have hkn : (j : Int) < (n : Int) := by omega
        clear hbd hbd2 hs hy hy2 hcv hja hjb
        go_wp2_with fail
        refine wp_region_later (by kernel_rfl) (by kernel_rfl) ?_
        repeat (go_big_quiet_step ((refine calls_later (hC.out _ ?_); exact Later.below _)))
        refine wpQuiet_nil ?_
        intro _ hw'
        obtain ⟨b2', hw''⟩ := hw'
        subst hw''
        have HW2 : Hid (Below w.heap.size w b2'.now) := hid (HW.out.trans (b2'.below.mono HW.out.size))
        have r0 := later_cell (HBD.out.below b2'.below).var
        have s0 := later_cell (HBD2.out.below b2'.below).var
        dsimp only at r0 s0
        have hne2 := later_some b2'.now
        clear p1 p2 p3 q1 q2 q3 hC
        cases cv with
        | false =>
          have hR := HS.out
          rw [Bool.and_false, Bool.false_and] at hR
          subst hR
          clear HS
          go_wp2_with fail
          refine wp_region_later (by kernel_rfl) (by kernel_rfl) ?_
          repeat (go_big_quiet_step (fail))
          refine wpQuiet_nil ?_
          intro _ hw'
          obtain ⟨b3, hw''⟩ := hw'
          subst hw''
          have HW3 := hid (HW2.out.trans (b3.below.mono HW2.out.size))
          clear r0 s0
          go_wp2
          go_ret
          exact ⟨rfl, HW3.out⟩
        | true =>
          by_cases he : vx.toList = vy.toList
          · have heb : (vx.toList == vy.toList) = true := by simp [he]
            have hR := HS.out
            rw [heb, Bool.true_and, Bool.true_and] at hR
            have HS2 := hid hR
            clear HS hR
            go_wp2_with fail
            refine wp_region_later (by kernel_rfl) (by kernel_rfl) ?_
            repeat (go_big_quiet_step (fail))
            refine wpQuiet_nil ?_
            intro _ hw'
            obtain ⟨b3, hw''⟩ := hw'
            subst hw''
            have HW3 := hid (HW2.out.trans (b3.below.mono HW2.out.size))
            clear r0 s0
            go_wp2
            go_roundw
            case rel => exact ⟨j + 1, by omega, by go_num, HS2.out, HW3.out⟩
            case measure => simp [intOf]; omega
          · have heb : (vx.toList == vy.toList) = false := by simp [he]
            have hR := HS.out
            rw [heb, Bool.false_and, Bool.false_and] at hR
            subst hR
            clear HS
            go_wp2_with fail
            refine wp_region_later (by kernel_rfl) (by kernel_rfl) ?_
            repeat (go_big_quiet_step (fail))
            refine wpQuiet_nil ?_
            intro _ hw'
            obtain ⟨b3, hw''⟩ := hw'
            subst hw''
            have HW3 := hid (HW2.out.trans (b3.below.mono HW2.out.size))
            clear r0 s0
            go_wp2
            go_ret
            exact ⟨rfl, HW3.out⟩
      · have hd : as'.drop j = [] := List.drop_eq_nil_of_le (by rw [HLN.out, HN.out]; omega)
        have hd2 : bs.drop j = [] := List.drop_eq_nil_of_le (by rw [HN.out]; omega)
        rw [hd, hd2] at hs
        have hR : R = true := hs.symm
        subst hR
        clear hs hd hd2
        go_wp2
        go_ret
        exact ⟨rfl, HW.out⟩
  · rw [sameA_len hl]
    have hl2 : ¬ ((as'.length : Int) = (bs.length : Int)) := by omega
    have hl3 : ((as'.length : Int) == (bs.length : Int)) = false := beq_eq_false_iff_ne.2 hl2
    go_enter Tryz.func14, Tryz.ntmps14
    go_wp2
    go_ret
    exact ⟨rfl, Below.refl _ _⟩
theorem inL_take {l : List ByteArray} {s : ByteArray} {j : Nat} (h : j < l.length) : inL (l.take (j + 1)) s = (inL (l.take j) s || decide (l[j] = s)) := by rw [List.take_succ_eq_append_getElem h, inL_snoc]
theorem toList_iff {a b : ByteArray} : a.toList = b.toList ↔ a = b := ⟨fun h => by rw [ByteArray.toList_eq, ByteArray.toList_eq] at h; exact bytes_eq h, fun h => by rw [h]⟩
end Go.Proofs.YtgidgmgpgfonnaaGreat
