/- SameAll; All's function value where there is nothing to go through. -/
import Derived.BigQuiet
import Derived.Test.YtdpdpjfnanjmgaaDoorSpF
namespace Go.Proofs.YtdpdpjfnanjmgaaDoor
open Go.RowKit Go.Shelf

set_option maxRecDepth 100000 in
set_option maxHeartbeats 4000000 in
theorem sameR_any (a : Option Addr) (c : Nat) (xs : List (List Int)) (b : Option Addr) (d : Nat) (ys : List (List Int)) (w : World) (hA : RowsAt w a xs) (hB : RowsAt w b ys) :
    Calls Tryd.prog 15 #[.slice a xs.length c, .slice b ys.length d] w fun e w' => e = .returned (.bool (decide (xs = ys))) ∧ Below w.heap.size w w' := by
  have HA := hid hA; have HB := hid hB
  have hs := hA.small; have hs' := hB.small
  have hmax : maxLen = 9223372036854775807 := rfl
  clear hA hB
  by_cases hl : xs.length = ys.length
  · obtain ⟨R, hR⟩ : ∃ R, decide (xs = ys) = R := ⟨_, rfl⟩
    rw [hR]
    have HR := hid hR; have HL := hid hl
    rw [← hl] at hs' ⊢
    have hne : ((xs.length : Int) != (xs.length : Int)) = false := by simp
    clear hR hl
    go_enter Tryd.func15, Tryd.ntmps15
    go_wp2_with fail
    go_loopw [5] (fun iv wr => ∃ j : Nat, j ≤ xs.length ∧ iv = .int .i64 j ∧ xs.take j = ys.take j ∧ Below w.heap.size w wr) (fun iv _ => xs.length - (intOf iv).toNat)
    case atStart => exact ⟨0, Nat.zero_le _, rfl, rfl, Below.refl _ _⟩
    case round =>
      obtain ⟨j, hj, rfl, hm, hb⟩ := hrel
      by_cases hlt : j < xs.length
      · have hlt' : j < ys.length := by have := HL.out; omega
        obtain ⟨b1, o1, p1, c1, rfl, hc, hr1⟩ := (HA.out.below hb.drew).cells j hlt
        obtain ⟨b2, o2, p2, c2, rfl, hd, hr2⟩ := (HB.out.below hb.drew).cells j hlt'
        have HN : Hid (xs[j] = ys[j] → xs.take (j + 1) = ys.take (j + 1)) := hid fun e => by rw [List.take_add_one, List.take_add_one, List.getElem?_eq_getElem hlt, List.getElem?_eq_getElem hlt', e, hm]
        have HX : Hid (xs[j] ≠ ys[j] → R = false) := hid fun e => by
          rw [← HR.out]
          exact decide_eq_false (fun e2 => e (by subst e2; rfl))
        have HSM := hid (sameI_any p1 p2 c1 c2 xs[j] ys[j] wr.drew hr1 hr2)
        obtain ⟨x, hx⟩ : ∃ x, xs[j] = x := ⟨_, rfl⟩
        obtain ⟨y, hy⟩ : ∃ y, ys[j] = y := ⟨_, rfl⟩
        rw [hx, hy] at HN HX HSM
        rw [hx] at hc
        rw [hy] at hd
        have HBB := hid hb
        clear hm hx hy hb hr1 hr2
        by_cases hxy : x = y
        · have HN2 := hid (HN.out hxy)
          rw [decide_eq_true hxy] at HSM
          clear HN HX hxy
          go_wp2_with fail
          go_region_with ((first
            | (go_at_call 13; refine Calls.mono HSM.out ?_; rintro e w3 ⟨rfl, hb3⟩; have HB3 := hid (HBB.out.drew.trans (hb3.mono HBB.out.size)); clear hb3)
            | fail))
          all_goals
            go_wp2_with fail
            go_roundw
            case rel => exact ⟨j + 1, by omega, by go_num, HN2.out, HB3.out⟩
            case measure => simp [intOf]; omega
        · have HX2 := hid (HX.out hxy)
          rw [decide_eq_false hxy] at HSM
          clear HN HX hxy
          go_wp2_with fail
          go_region_with ((first
            | (go_at_call 13; refine Calls.mono HSM.out ?_; rintro e w3 ⟨rfl, hb3⟩; have HB3 := hid (HBB.out.drew.trans (hb3.mono HBB.out.size)); clear hb3)
            | fail))
          all_goals
            go_wp2_with fail
            go_ret
            exact ⟨by rw [HX2.out]; rfl, HB3.out⟩
      · have e1 : j = xs.length := by omega
        have HF : Hid (R = true) := hid (by
          rw [← HR.out]
          refine decide_eq_true ?_
          rw [e1, List.take_length, HL.out, List.take_length] at hm
          exact hm)
        have HBB := hid hb
        clear hm hb
        go_wp2_with fail
        go_ret
        exact ⟨by rw [HF.out]; rfl, HBB.out⟩
  · have hne : ((xs.length : Int) != (ys.length : Int)) = true := by simp; omega
    have HF : Hid (decide (xs = ys) = false) := hid (decide_eq_false (fun e => hl (by rw [e])))
    go_enter Tryd.func15, Tryd.ntmps15
    go_wp2_with fail
    go_ret
    exact ⟨by rw [HF.out]; rfl, Below.refl _ _⟩
set_option maxRecDepth 100000 in
theorem none_in (n lp : Nat) (W0 : World) : CallsIn Fence.wide n Tryd.prog 25 #[.func (.yield lp) #[] #[]] W0 fun e W' => (∃ v, e = .returned v) ∧ W' = W0 := by
  refine callsIn_of_wp Tryd.func25 rfl trivial ?_ rfl
  simp only [Tryd.ntmps25, List.size_toArray, List.length_cons, List.length_nil, Nat.reduceAdd, Nat.reduceSub, Array.replicate_succ, Array.replicate_zero, List.push_toArray, List.append_toArray, List.nil_append, List.cons_append]
  gi_wp2
  refine bodyPost_end (results_none rfl _ _ _) rfl ?_
  exact ⟨⟨_, rfl⟩, rfl⟩
end Go.Proofs.YtdpdpjfnanjmgaaDoor
