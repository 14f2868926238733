/- Same of numbers, of masks. -/
import Derived.Test.YteakakonjfcpmaaDoorPkLives
namespace Go.Proofs.YteakakonjfcpmaaDoor
open Go.RowKit Go.Shelf

/-- Masks in memory. -/
structure MsAt (w : World) (a : Option Addr) (ms : List Int) : Prop where
  small : ms.length ≤ maxLen
  cells : ∀ i (h : i < ms.length), ∃ b o, a = some ⟨b, o, none⟩ ∧ w.cell? ⟨b, o + i, none⟩ = some (.int .u32 ms[i])
theorem MsAt.below {w w' : World} {a : Option Addr} {ms : List Int} (h : MsAt w a ms) (hb : Below w.heap.size w w') : MsAt w' a ms :=
  ⟨h.small, fun i hi => let ⟨b, o, h1, h2⟩ := h.cells i hi; ⟨b, o, h1, below_cell hb _ _ h2⟩⟩
def mInt (l : List Nat) : List Int := l.map fun M : Nat => (M : Int)
theorem OwnZ.masks {w : World} {base : Nat} {z : Value} {a : Option Addr} {n c : Nat} {l : List Nat} (h : OwnZ w base 32 z (.slice a n c) (mAll l)) (hs : l.length ≤ maxLen) : MsAt w a (mInt l) := by
  refine ⟨by simpa [mInt] using hs, fun i hi => ?_⟩
  have hi' : i < l.length := by simpa [mInt] using hi
  obtain ⟨g, h1, _, h2⟩ := h.cell (i := i) (by rw [mAll_len]; exact hi')
  exact ⟨g, 0, h1, by rw [h2]; simp [mAll, mInt]⟩
theorem lit_masks {W : World} {b : Nat} {ms : List Int} (h : W.heap[b]? = some (.cells (ms.map (Value.int .u32)).toArray 32 (0, 0))) (hs : ms.length ≤ maxLen) : MsAt W (some ⟨b, 0, none⟩) ms :=
  ⟨hs, fun i hi => ⟨b, 0, rfl, cell_box h (by rw [Nat.zero_add]; simp [hi])⟩⟩
set_option maxRecDepth 100000 in
set_option maxHeartbeats 4000000 in
theorem same_any (a : Option Addr) (c : Nat) (xs : List Int) (b : Option Addr) (d : Nat) (ys : List Int) (w : World) (hA : IntsAt w a xs) (hB : IntsAt w b ys) :
    Calls Tryd.prog 14 #[.slice a xs.length c, .slice b ys.length d] w fun e w' => e = .returned (.bool (decide (xs = ys))) ∧ Below w.heap.size w w' := by
  have HA := hid hA; have HB := hid hB
  have hs := hA.small; have hs' := hB.small
  have hmax : maxLen = 9223372036854775807 := rfl
  clear hA hB
  by_cases hl : xs.length = ys.length
  · obtain ⟨R, hR⟩ : ∃ R, decide (xs = ys) = R := ⟨_, rfl⟩
    rw [hR]
    have HR := hid hR; have HL := hid hl
    rw [← hl] at hs' ⊢
    have hne : ((xs.length : Int) != (xs.length : Int)) = false := by simp
    clear hR hl
    go_enter Tryd.func14, Tryd.ntmps14
    go_wp2_with fail
    go_loopw [5] (fun iv wr => ∃ j : Nat, j ≤ xs.length ∧ iv = .int .i64 j ∧ xs.take j = ys.take j ∧ Below w.heap.size w wr) (fun iv _ => xs.length - (intOf iv).toNat)
    case atStart => exact ⟨0, Nat.zero_le _, rfl, rfl, Below.refl _ _⟩
    case round =>
      obtain ⟨j, hj, rfl, hm, hb⟩ := hrel
      by_cases hlt : j < xs.length
      · have hlt' : j < ys.length := by have := HL.out; omega
        obtain ⟨b1, o1, rfl, hc⟩ := (HA.out.below hb.drew).cells j hlt
        obtain ⟨b2, o2, rfl, hd⟩ := (HB.out.below hb.drew).cells j hlt'
        have HN : Hid (xs[j] = ys[j] → xs.take (j + 1) = ys.take (j + 1)) := hid fun e => by rw [List.take_add_one, List.take_add_one, List.getElem?_eq_getElem hlt, List.getElem?_eq_getElem hlt', e, hm]
        have HX : Hid (xs[j] ≠ ys[j] → R = false) := hid fun e => by
          rw [← HR.out]
          exact decide_eq_false (fun e2 => e (by subst e2; rfl))
        obtain ⟨x, hx⟩ : ∃ x, xs[j] = x := ⟨_, rfl⟩
        obtain ⟨y, hy⟩ : ∃ y, ys[j] = y := ⟨_, rfl⟩
        rw [hx, hy] at HN HX
        rw [hx] at hc
        rw [hy] at hd
        have HBB := hid hb
        clear hm hx hy hb
        by_cases hxy : x = y
        · subst hxy
          have hne2 : (x != x) = false := by simp
          have HN2 := hid (HN.out rfl)
          clear HN HX
          go_wp2_with fail
          go_region
          all_goals
            go_wp2_with fail
            go_roundw
            case rel => exact ⟨j + 1, by omega, by go_num, HN2.out, HBB.out.drew⟩
            case measure => simp [intOf]; omega
        · have hne2 : (x != y) = true := by simpa using hxy
          have HX2 := hid (HX.out hxy)
          clear HN HX hxy
          go_wp2_with fail
          go_region
          all_goals
            go_wp2_with fail
            go_ret
            exact ⟨by rw [HX2.out]; rfl, HBB.out.drew⟩
      · have e1 : j = xs.length := by omega
        have HF : Hid (R = true) := hid (by
          rw [← HR.out]
          refine decide_eq_true ?_
          rw [e1, List.take_length, HL.out, List.take_length] at hm
          exact hm)
        have HBB := hid hb
        clear hm hb
        go_wp2_with fail
        go_ret
        exact ⟨by rw [HF.out]; rfl, HBB.out⟩
  · have hne : ((xs.length : Int) != (ys.length : Int)) = true := by simp; omega
    have HF : Hid (decide (xs = ys) = false) := hid (decide_eq_false (fun e => hl (by rw [e])))
    go_enter Tryd.func14, Tryd.ntmps14
    go_wp2_with fail
    go_ret
    exact ⟨by rw [HF.out]; rfl, Below.refl _ _⟩
set_option maxRecDepth 100000 in
set_option maxHeartbeats 4000000 in
theorem samem_any (a : Option Addr) (c : Nat) (xs : List Int) (b : Option Addr) (d : Nat) (ys : List Int) (w : World) (hA : MsAt w a xs) (hB : MsAt w b ys) :
    Calls Tryd.prog 13 #[.slice a xs.length c, .slice b ys.length d] w fun e w' => e = .returned (.bool (decide (xs = ys))) ∧ Below w.heap.size w w' := by
  have HA := hid hA; have HB := hid hB
  have hs := hA.small; have hs' := hB.small
  have hmax : maxLen = 9223372036854775807 := rfl
  clear hA hB
  by_cases hl : xs.length = ys.length
  · obtain ⟨R, hR⟩ : ∃ R, decide (xs = ys) = R := ⟨_, rfl⟩
    rw [hR]
    have HR := hid hR; have HL := hid hl
    rw [← hl] at hs' ⊢
    have hne : ((xs.length : Int) != (xs.length : Int)) = false := by simp
    clear hR hl
    go_enter Tryd.func13, Tryd.ntmps13
    go_wp2_with fail
    go_loopw [5] (fun iv wr => ∃ j : Nat, j ≤ xs.length ∧ iv = .int .i64 j ∧ xs.take j = ys.take j ∧ Below w.heap.size w wr) (fun iv _ => xs.length - (intOf iv).toNat)
    case atStart => exact ⟨0, Nat.zero_le _, rfl, rfl, Below.refl _ _⟩
    case round =>
      obtain ⟨j, hj, rfl, hm, hb⟩ := hrel
      by_cases hlt : j < xs.length
      · have hlt' : j < ys.length := by have := HL.out; omega
        obtain ⟨b1, o1, rfl, hc⟩ := (HA.out.below hb.drew).cells j hlt
        obtain ⟨b2, o2, rfl, hd⟩ := (HB.out.below hb.drew).cells j hlt'
        have HN : Hid (xs[j] = ys[j] → xs.take (j + 1) = ys.take (j + 1)) := hid fun e => by rw [List.take_add_one, List.take_add_one, List.getElem?_eq_getElem hlt, List.getElem?_eq_getElem hlt', e, hm]
        have HX : Hid (xs[j] ≠ ys[j] → R = false) := hid fun e => by
          rw [← HR.out]
          exact decide_eq_false (fun e2 => e (by subst e2; rfl))
        obtain ⟨x, hx⟩ : ∃ x, xs[j] = x := ⟨_, rfl⟩
        obtain ⟨y, hy⟩ : ∃ y, ys[j] = y := ⟨_, rfl⟩
        rw [hx, hy] at HN HX
        rw [hx] at hc
        rw [hy] at hd
        have HBB := hid hb
        clear hm hx hy hb
        by_cases hxy : x = y
        · subst hxy
          have hne2 : (x != x) = false := by simp
          have HN2 := hid (HN.out rfl)
          clear HN HX
          go_wp2_with fail
          go_region
          all_goals
            go_wp2_with fail
            go_roundw
            case rel => exact ⟨j + 1, by omega, by go_num, HN2.out, HBB.out.drew⟩
            case measure => simp [intOf]; omega
        · have hne2 : (x != y) = true := by simpa using hxy
          have HX2 := hid (HX.out hxy)
          clear HN HX hxy
          go_wp2_with fail
          go_region
          all_goals
            go_wp2_with fail
            go_ret
            exact ⟨by rw [HX2.out]; rfl, HBB.out.drew⟩
      · have e1 : j = xs.length := by omega
        have HF : Hid (R = true) := hid (by
          rw [← HR.out]
          refine decide_eq_true ?_
          rw [e1, List.take_length, HL.out, List.take_length] at hm
          exact hm)
        have HBB := hid hb
        clear hm hb
        go_wp2_with fail
        go_ret
        exact ⟨by rw [HF.out]; rfl, HBB.out⟩
  · have hne : ((xs.length : Int) != (ys.length : Int)) = true := by simp; omega
    have HF : Hid (decide (xs = ys) = false) := hid (decide_eq_false (fun e => hl (by rw [e])))
    go_enter Tryd.func13, Tryd.ntmps13
    go_wp2_with fail
    go_ret
    exact ⟨by rw [HF.out]; rfl, Below.refl _ _⟩
end Go.Proofs.YteakakonjfcpmaaDoor
