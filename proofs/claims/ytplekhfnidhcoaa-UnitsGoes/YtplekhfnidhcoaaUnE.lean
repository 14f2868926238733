/- The document's Same of rows of binds to constants. -/
import Derived.Test.YtplekhfnidhcoaaUnD
namespace Go.Proofs.Ytplekhfnidhcoaa
open Go.RowKit Go.Shelf Go.Deep

theorem toList_iff {a b : ByteArray} : a.toList = b.toList ↔ a = b := ⟨fun h => by rw [ByteArray.toList_eq, ByteArray.toList_eq] at h; exact ByteArray.ext (Array.toList_inj.1 h), fun h => by rw [h]⟩
theorem drop_ne {l m : List Bl} {j : Nat} (h1 : j < l.length) (h2 : j < m.length) (h : l[j] ≠ m[j]) : l ≠ m := fun e => h (by subst e; rfl)
set_option maxRecDepth 100000 in
set_option maxHeartbeats 4000000 in
/-- The document's Same. -/
theorem rsame_any (pa : Option Addr) (ca : Nat) (xs : List Bl) (pb : Option Addr) (cb : Nat) (ys : List Bl) (w : World) (hA : BlAt w pa xs) (hB : BlAt w pb ys) :
    Calls Try.prog 15 #[.slice pa xs.length ca, .slice pb ys.length cb] w fun e w' => e = .returned (.bool (decide (xs = ys))) ∧ Below w.heap.size w w' := by
  have HA := hid hA; have HB := hid hB
  have hna : xs.length ≤ 9223372036854775807 := hA.small
  have hnb : ys.length ≤ 9223372036854775807 := hB.small
  clear hA hB
  by_cases hl : xs.length = ys.length
  · obtain ⟨R, hR⟩ : ∃ R, decide (xs = ys) = R := ⟨_, rfl⟩
    rw [hR]
    have HR := hid hR
    have HLN := hid hl
    obtain ⟨n, hn⟩ : ∃ n, ys.length = n := ⟨_, rfl⟩
    rw [hn] at hl hnb ⊢
    rw [hl]
    have HN := hid hn
    clear hR hn hl hna
    go_enter Try.func15, Try.ntmps15
    go_wp2_with fail
    go_loopw [5, 6] (fun iv _ wr => ∃ j : Nat, j ≤ n ∧ iv = .int .i64 j ∧ xs.take j = ys.take j ∧ Below w.heap.size w wr) (fun iv _ _ => n - (intOf iv).toNat)
    case atStart => exact ⟨0, Nat.zero_le _, rfl, rfl, Below.refl _ _⟩
    case round =>
      obtain ⟨j, hj, rfl, hs, hlow⟩ := hrel
      have HW := hid hlow; have HS := hid hs
      clear hlow hs
      by_cases hlt : j < n
      · have hja : j < xs.length := by rw [HLN.out, HN.out]; exact hlt
        have hjb : j < ys.length := by rw [HN.out]; exact hlt
        obtain ⟨b1, o1, rfl, hbd⟩ := (HA.out.below HW.out).cells j hja
        obtain ⟨b2, o2, rfl, hbd2⟩ := (HB.out.below HW.out).cells j hjb
        obtain ⟨⟨vx, s⟩, hy⟩ : ∃ y, xs[j] = y := ⟨_, rfl⟩
        obtain ⟨⟨vy, t⟩, hy2⟩ : ∃ y, ys[j] = y := ⟨_, rfl⟩
        rw [hy] at hbd
        rw [hy2] at hbd2
        have HBD := hid hbd; have HBD2 := hid hbd2
        have HDN : Hid (vx ≠ vy ∨ s ≠ t → R = false) := hid fun hne => by
          rw [← HR.out]
          refine decide_eq_false (drop_ne hja hjb ?_)
          rw [hy, hy2]
          intro e
          injection e with e1 e2
          rcases hne with h | h
          · exact h e1
          · exact h e2
        have HEQ : Hid (vx = vy → s = t → xs.take (j + 1) = ys.take (j + 1)) := hid fun e1 e2 => by
          rw [List.take_succ_eq_append_getElem hja, List.take_succ_eq_append_getElem hjb, HS.out, hy, hy2, e1, e2]
        obtain ⟨cv, hcv⟩ : ∃ cv, decide (s = t) = cv := ⟨_, rfl⟩
        have hC : Hid (∀ w', Calls Try.prog 31 #[.agg #[.string ⟨#[]⟩, .int .i64 s, .slice none 0 0], .agg #[.string ⟨#[]⟩, .int .i64 t, .slice none 0 0]] w' fun e w'' => e = .returned (.bool cv) ∧ Below w'.heap.size w' w'') := hid fun w' => by
          rw [← hcv]
          exact rsame_leaf s t w'
        have HCV := hid hcv
        have hne := later_some wr
        have p1 := later_cell hbd.name; have p2 := later_cell hbd.sym; have p3 := later_cell hbd.list
        have q1 := later_cell hbd2.name; have q2 := later_cell hbd2.sym; have q3 := later_cell hbd2.list
        dsimp only at p1 p2 p3 q1 q2 q3
        have hk0 : (0 : Int) ≤ (j : Int) := by omega
        have hkn : (j : Int) < (n : Int) := by omega
        clear hbd hbd2 hy hy2 hcv hja hjb
        go_wp2_with fail
        refine wp_region_later (by kernel_rfl) (by kernel_rfl) ?_
        repeat (go_big_quiet_step ((exact calls_later (hC.out _))))
        refine wpQuiet_nil ?_
        intro _ hw'
        obtain ⟨b2', hw''⟩ := hw'
        subst hw''
        have HW2 : Hid (Below w.heap.size w b2'.now) := hid (HW.out.trans (b2'.below.mono HW.out.size))
        have r0 := later_cell (HBD.out.below b2'.below).var
        have s0 := later_cell (HBD2.out.below b2'.below).var
        dsimp only at r0 s0
        have hne2 := later_some b2'.now
        clear p1 p2 p3 q1 q2 q3 hC
        cases cv with
        | false =>
          have hst : s ≠ t := of_decide_eq_false HCV.out
          have hR := HDN.out (.inr hst)
          subst hR
          go_wp2_with fail
          refine wp_region_later (by kernel_rfl) (by kernel_rfl) ?_
          repeat (go_big_quiet_step (fail))
          refine wpQuiet_nil ?_
          intro _ hw'
          obtain ⟨b3, hw''⟩ := hw'
          subst hw''
          have HW3 := hid (HW2.out.trans (b3.below.mono HW2.out.size))
          clear r0 s0
          go_wp2
          go_ret
          exact ⟨rfl, HW3.out⟩
        | true =>
          have hst : s = t := of_decide_eq_true HCV.out
          have HST := hid hst
          clear hst
          by_cases he : vx.toList = vy.toList
          · have heb : (vx.toList == vy.toList) = true := by simp [he]
            have HTK := hid (HEQ.out (toList_iff.1 he) HST.out)
            go_wp2_with fail
            refine wp_region_later (by kernel_rfl) (by kernel_rfl) ?_
            repeat (go_big_quiet_step (fail))
            refine wpQuiet_nil ?_
            intro _ hw'
            obtain ⟨b3, hw''⟩ := hw'
            subst hw''
            have HW3 := hid (HW2.out.trans (b3.below.mono HW2.out.size))
            clear r0 s0
            go_wp2
            go_roundw
            case rel => exact ⟨j + 1, by omega, by go_num, HTK.out, HW3.out⟩
            case measure => simp [intOf]; omega
          · have heb : (vx.toList == vy.toList) = false := by simp [he]
            have hR := HDN.out (.inl (fun e => he (by rw [e])))
            subst hR
            go_wp2_with fail
            refine wp_region_later (by kernel_rfl) (by kernel_rfl) ?_
            repeat (go_big_quiet_step (fail))
            refine wpQuiet_nil ?_
            intro _ hw'
            obtain ⟨b3, hw''⟩ := hw'
            subst hw''
            have HW3 := hid (HW2.out.trans (b3.below.mono HW2.out.size))
            clear r0 s0
            go_wp2
            go_ret
            exact ⟨rfl, HW3.out⟩
      · have hR : R = true := by
          rw [← HR.out]
          have h5 := HS.out
          rw [List.take_of_length_le (by rw [HLN.out, HN.out]; omega), List.take_of_length_le (by rw [HN.out]; omega)] at h5
          exact decide_eq_true h5
        subst hR
        go_wp2
        go_ret
        exact ⟨rfl, HW.out⟩
  · have hd : decide (xs = ys) = false := decide_eq_false (fun e => hl (by rw [e]))
    rw [hd]
    have hl2 : ¬ ((xs.length : Int) = (ys.length : Int)) := by omega
    have hl3 : ((xs.length : Int) == (ys.length : Int)) = false := beq_eq_false_iff_ne.2 hl2
    clear hd
    go_enter Try.func15, Try.ntmps15
    go_wp2
    go_ret
    exact ⟨rfl, Below.refl _ _⟩
end Go.Proofs.Ytplekhfnidhcoaa
