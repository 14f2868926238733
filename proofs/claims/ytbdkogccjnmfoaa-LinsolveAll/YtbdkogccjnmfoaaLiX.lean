/- LinsolveNames: the walk. -/
import Derived.Test.YtbdkogccjnmfoaaLiW
import Derived.Test.YtbdkogccjnmfoaaLiR
namespace Go.Proofs.Ytbdkogccjnmfoaa
open Go.RowKit Go.Shelf

set_option maxRecDepth 100000 in
set_option maxHeartbeats 4000000 in
theorem sameAll_any (a : Option Addr) (c : Nat) (xs : List (List Int)) (b : Option Addr) (d : Nat) (ys : List (List Int)) (w : World) (hA : RowsAt w a xs) (hB : RowsAt w b ys) :
    Calls Try.prog 13 #[.slice a xs.length c, .slice b ys.length d] w fun e w' => e = .returned (.bool (decide (xs = ys))) ∧ Below w.heap.size w w' := by
  have HA := hid hA; have HB := hid hB
  have hs := hA.small; have hs' := hB.small
  have hmax : maxLen = 9223372036854775807 := rfl
  clear hA hB
  by_cases hl : xs.length = ys.length
  · obtain ⟨R, hR⟩ : ∃ R, decide (xs = ys) = R := ⟨_, rfl⟩
    rw [hR]
    have HR := hid hR; have HL := hid hl
    rw [← hl] at hs' ⊢
    have hne : ((xs.length : Int) != (xs.length : Int)) = false := by simp
    clear hR hl
    go_enter Try.func13, Try.ntmps13
    go_wp2_with fail
    go_loopw [5] (fun iv wr => ∃ j : Nat, j ≤ xs.length ∧ iv = .int .i64 j ∧ xs.take j = ys.take j ∧ Below w.heap.size w wr) (fun iv _ => xs.length - (intOf iv).toNat)
    case atStart => exact ⟨0, Nat.zero_le _, rfl, rfl, Below.refl _ _⟩
    case round =>
      obtain ⟨j, hj, rfl, hm, hb⟩ := hrel
      by_cases hlt : j < xs.length
      · have hlt' : j < ys.length := by have := HL.out; omega
        obtain ⟨b1, o1, p1, c1, rfl, hc, hr1⟩ := (HA.out.below hb.drew).cells j hlt
        obtain ⟨b2, o2, p2, c2, rfl, hd, hr2⟩ := (HB.out.below hb.drew).cells j hlt'
        have HN : Hid (xs[j] = ys[j] → xs.take (j + 1) = ys.take (j + 1)) := hid fun e => by rw [List.take_add_one, List.take_add_one, List.getElem?_eq_getElem hlt, List.getElem?_eq_getElem hlt', e, hm]
        have HX : Hid (xs[j] ≠ ys[j] → R = false) := hid fun e => by
          rw [← HR.out]
          exact decide_eq_false (fun e2 => e (by subst e2; rfl))
        have HSM := hid (same_any p1 c1 xs[j] p2 c2 ys[j] wr.drew hr1 hr2)
        obtain ⟨x, hx⟩ : ∃ x, xs[j] = x := ⟨_, rfl⟩
        obtain ⟨y, hy⟩ : ∃ y, ys[j] = y := ⟨_, rfl⟩
        rw [hx, hy] at HN HX HSM
        rw [hx] at hc
        rw [hy] at hd
        have HBB := hid hb
        clear hm hx hy hb hr1 hr2
        by_cases hxy : x = y
        · have HN2 := hid (HN.out hxy)
          rw [decide_eq_true hxy] at HSM
          clear HN HX hxy
          go_wp2_with fail
          go_region_with ((first
            | (go_at_call 14; refine Calls.mono HSM.out ?_; rintro e w3 ⟨rfl, hb3⟩; have HB3 := hid (HBB.out.drew.trans (hb3.mono HBB.out.size)); clear hb3)
            | fail))
          all_goals
            go_wp2_with fail
            go_roundw
            case rel => exact ⟨j + 1, by omega, by go_num, HN2.out, HB3.out⟩
            case measure => simp [intOf]; omega
        · have HX2 := hid (HX.out hxy)
          rw [decide_eq_false hxy] at HSM
          clear HN HX hxy
          go_wp2_with fail
          go_region_with ((first
            | (go_at_call 14; refine Calls.mono HSM.out ?_; rintro e w3 ⟨rfl, hb3⟩; have HB3 := hid (HBB.out.drew.trans (hb3.mono HBB.out.size)); clear hb3)
            | fail))
          all_goals
            go_wp2_with fail
            go_ret
            exact ⟨by rw [HX2.out]; rfl, HB3.out⟩
      · have e1 : j = xs.length := by omega
        have HF : Hid (R = true) := hid (by
          rw [← HR.out]
          refine decide_eq_true ?_
          rw [e1, List.take_length, HL.out, List.take_length] at hm
          exact hm)
        have HBB := hid hb
        clear hm hb
        go_wp2_with fail
        go_ret
        exact ⟨by rw [HF.out]; rfl, HBB.out⟩
  · have hne : ((xs.length : Int) != (ys.length : Int)) = true := by simp; omega
    have HF : Hid (decide (xs = ys) = false) := hid (decide_eq_false (fun e => hl (by rw [e])))
    go_enter Try.func13, Try.ntmps13
    go_wp2_with fail
    go_ret
    exact ⟨by rw [HF.out]; rfl, Below.refl _ _⟩

theorem lit_ints {W : World} {b : Nat} {l : List Int} (h : W.heap[b]? = some (.cells (cAll l).toArray 3 (0, 0))) (hl : l.length ≤ maxLen) : IntsAt W (some ⟨b, 0, none⟩) l := ⟨hl, fun i hi => ⟨b, 0, rfl, by rw [Nat.zero_add]; exact cell_box h (cAll_get l i hi)⟩⟩
theorem XRow.rows {w : World} {base : Nat} {q : Option Addr} {c n : Nat} {vs : List Vc} (h : XRow w base (.slice q n c) vs) (hl : vs.length ≤ maxLen) : RowsAt w q (vs.map (fun x => toI x.l)) := ⟨by simpa using hl, fun i hi => by
  have hi' : i < vs.length := by simpa using hi
  obtain ⟨g, rfl, _, _, _, hc⟩ := h.cell i hi'
  have hv := (h.vec _ (List.getElem_mem hi')).ints
  refine ⟨g, 0, some ⟨vs[i].b, 0, none⟩, vs[i].c, rfl, ?_, ?_⟩
  · rw [Nat.zero_add, hc]
    simp [toI_len]
  · simpa using hv.at⟩
theorem alloc2 (w : World) (o1 o2 : Obj) : ((w.alloc o1).alloc o2).heap[w.heap.size]? = some o1 ∧ ((w.alloc o1).alloc o2).heap[w.heap.size + 1]? = some o2 ∧ Below w.heap.size w ((w.alloc o1).alloc o2) ∧ ((w.alloc o1).alloc o2).heap.size = w.heap.size + 2 := by
  have b1 := alloc_below0 w o1
  have n1 := World.alloc_heap_new w o1
  have s1 := World.size_alloc w o1
  generalize w.alloc o1 = A at b1 n1 s1 ⊢
  have b2 := alloc_below0 A o2
  have n2 := World.alloc_heap_new A o2
  have s2 := World.size_alloc A o2
  rw [s1] at b2 n2 s2
  exact ⟨(b2.block _ (by omega)).trans n1, n2, b1.trans (b2.mono (by omega)), s2⟩
theorem alloc4 (w : World) (o1 o2 o3 o4 : Obj) : ∀ W, W = (((w.alloc o1).alloc o2).alloc o3).alloc o4 → W.heap[w.heap.size]? = some o1 ∧ W.heap[w.heap.size + 1]? = some o2 ∧ W.heap[w.heap.size + 2]? = some o3 ∧ W.heap[w.heap.size + 3]? = some o4 ∧ Below w.heap.size w W := by
  intro W hW
  obtain ⟨h1, h2, h3, h4⟩ := alloc2 w o1 o2
  generalize (w.alloc o1).alloc o2 = A at h1 h2 h3 h4 hW
  obtain ⟨k1, k2, k3, k4⟩ := alloc2 A o3 o4
  rw [← hW, h4] at k1 k2
  rw [← hW] at k3
  exact ⟨(k3.block _ (by omega)).trans h1, (k3.block _ (by omega)).trans h2, k1, k2, h3.trans (k3.mono (by omega))⟩
theorem min213 : IsMin (pbOf [2, 1] [3]) [[0, 3, 1], [1, 1, 1], [3, 0, 2]] := ⟨by decide +kernel, by decide +kernel⟩
theorem five_len : (res (pbOf [1, 1, 1, 1, 1] [1, 1, 1, 1, 1]) 13 root).length = 25 := by decide +kernel
set_option maxRecDepth 100000 in
set_option maxHeartbeats 8000000 in
theorem linsolveNames_walk (w : World) : Calls Try.prog 3 #[] w fun e w' => e = .returned (.bool true) ∧ Below w.heap.size w w' := by
  have hmax : maxLen = 9223372036854775807 := rfl
  go_enter Try.func3, Try.ntmps3
  go_wp2_with fail
  refine (lives_any w).mono ?_
  rintro e w1 ⟨rfl, hb1⟩
  have HB1 := hid hb1
  obtain ⟨n1, n2, b2, s2⟩ := alloc2 w1 (.cells #[.int .i64 2, .int .i64 1] 3) (.cells #[.int .i64 3] 3)
  have HBA := hid (basis_any _ 2 [2, 1] _ 1 [3] _ (lit_ints (l := [2, 1]) n1 (by decide)) (lit_ints (l := [3]) n2 (by decide)))
  have HB2 := hid b2
  clear hb1 n1 n2 b2 s2
  go_wp2_with fail
  refine HBA.out.mono ?_
  rintro e w2 ⟨hb, (⟨h0, _⟩ | ⟨_, vs, hmin, (⟨h16, _⟩ | ⟨_, v, rfl, hX, _⟩)⟩)⟩
  · exact absurd (by decide) h0
  · have h := congrArg List.length (hmin.unique min213)
    rw [List.length_map] at h
    simp at h
    omega
  have hl := hmin.unique min213
  have hlen : vs.length = 3 := by have h := congrArg List.length hl; rw [List.length_map] at h; exact h
  obtain ⟨ql, dl, hv⟩ := hX.form
  rw [hlen] at hv
  subst hv
  have hrows := hX.rows (by omega)
  have hmap : vs.map (fun x => toI x.l) = [[0, 3, 1], [1, 1, 1], [3, 0, 2]] := by
    have : vs.map (fun x => toI x.l) = (vs.map Vc.l).map toI := by simp
    rw [this, hl]
    rfl
  rw [hmap] at hrows
  have HROW := hid hrows
  have HBW : Hid (Below w.heap.size w w2) := hid (HB1.out.trans ((HB2.out.mono (HB1.out.size)).trans (hb.mono (Nat.le_trans HB1.out.size HB2.out.size))))
  clear hb hmin hX hl hlen hrows hmap HBA HB1 HB2
  -- five and five
  have n5 := World.alloc_heap_new w2 (.cells #[.int .i64 1, .int .i64 1, .int .i64 1, .int .i64 1, .int .i64 1] 3)
  have b5 := alloc_below0 w2 (.cells #[.int .i64 1, .int .i64 1, .int .i64 1, .int .i64 1, .int .i64 1] 3)
  have HI5 := hid (lit_ints (l := [1, 1, 1, 1, 1]) n5 (by decide))
  have HBA := hid (basis_any _ 5 [1, 1, 1, 1, 1] _ 5 [1, 1, 1, 1, 1] _ HI5.out HI5.out)
  have HB5 := hid b5
  have HR5 := hid (HROW.out.below b5)
  clear n5 b5
  go_wp2_with fail
  refine HBA.out.mono ?_
  rintro e w3 ⟨hb, (⟨h0, _⟩ | ⟨_, vs5, hmin, (⟨h16, rfl⟩ | ⟨h16, _⟩)⟩)⟩
  · exact absurd (by decide) h0
  rotate_left
  · have h := hmin.perm.length_eq
    rw [List.length_map, five_len] at h
    omega
  have HI6 := hid (HI5.out.below hb)
  have HR6 := hid (HR5.out.below hb)
  have HBX : Hid (Below w.heap.size w w3) := hid (HBW.out.trans ((HB5.out.mono HBW.out.size).trans (hb.mono (Nat.le_trans HBW.out.size HB5.out.size))))
  clear hb hmin h16 HBA HI5 HR5 HB5 HBW HROW
  -- Check, twice
  obtain ⟨n1, n2, b2, s2⟩ := alloc2 w3 (.cells #[.int .i64 1, .int .i64 1, .int .i64 1, .int .i64 1, .int .i64 1, .int .i64 1] 3) (.cells #[.int .i64 7] 3)
  have HC1 := hid (check_any _ 6 [1, 1, 1, 1, 1, 1] _ 1 [7] _ (lit_ints (l := [1, 1, 1, 1, 1, 1]) n1 (by decide)) (lit_ints (l := [7]) n2 (by decide)))
  rw [show chkE [1, 1, 1, 1, 1, 1] [7] = 91 by decide] at HC1
  have HI7 := hid (HI6.out.below b2); have HR7 := hid (HR6.out.below b2)
  have HBY : Hid (Below w.heap.size w ((w3.alloc (.cells #[.int .i64 1, .int .i64 1, .int .i64 1, .int .i64 1, .int .i64 1, .int .i64 1] 3)).alloc (.cells #[.int .i64 7] 3))) := hid (HBX.out.trans (b2.mono HBX.out.size))
  clear n1 n2 b2 s2 HI6 HR6 HBX
  go_wp2_with fail
  refine HC1.out.mono ?_
  rintro e w4 ⟨rfl, rfl⟩
  generalize (w3.alloc (.cells #[.int .i64 1, .int .i64 1, .int .i64 1, .int .i64 1, .int .i64 1, .int .i64 1] 3)).alloc (.cells #[.int .i64 7] 3) = w4 at HI7 HR7 HBY ⊢
  have n1 := World.alloc_heap_new w4 (.cells #[.int .i64 0] 3)
  have b1 := alloc_below0 w4 (.cells #[.int .i64 0] 3)
  have HC2 := hid (check_any _ 1 [0] none 0 [] _ (lit_ints (l := [0]) n1 (by decide)) ⟨by decide, fun i hi => absurd hi (Nat.not_lt_zero i)⟩)
  rw [show chkE [0] [] = 92 by decide] at HC2
  have HI8 := hid (HI7.out.below b1); have HR8 := hid (HR7.out.below b1)
  have HBZ : Hid (Below w.heap.size w (w4.alloc (.cells #[.int .i64 0] 3))) := hid (HBY.out.trans (b1.mono HBY.out.size))
  clear n1 b1 HI7 HR7 HBY HC1
  go_wp2_with fail
  refine HC2.out.mono ?_
  rintro e w5 ⟨rfl, rfl⟩
  generalize w4.alloc (.cells #[.int .i64 0] 3) = w5 at HI8 HR8 HBZ ⊢
  obtain ⟨m1, m2, m3, m4, mb⟩ := alloc4 w5 (.cells #[.int .i64 1, .int .i64 1, .int .i64 1] 3) (.cells #[.int .i64 0, .int .i64 3, .int .i64 1] 3) (.cells #[.slice (some ⟨w5.heap.size, 0, none⟩) 3 3, .slice (some ⟨w5.heap.size + 1, 0, none⟩) 3 3] 27) (.cells #[.int .i64 2, .int .i64 5, .int .i64 3] 3) _ rfl
  have hrw : RowsAt ((((w5.alloc (.cells #[.int .i64 1, .int .i64 1, .int .i64 1] 3)).alloc (.cells #[.int .i64 0, .int .i64 3, .int .i64 1] 3)).alloc (.cells #[.slice (some ⟨w5.heap.size, 0, none⟩) 3 3, .slice (some ⟨w5.heap.size + 1, 0, none⟩) 3 3] 27)).alloc (.cells #[.int .i64 2, .int .i64 5, .int .i64 3] 3)) (some ⟨w5.heap.size + 2, 0, none⟩) [[1, 1, 1], [0, 3, 1]] := ⟨by decide, fun i hi => by
    match i, hi with
    | 0, _ => exact ⟨_, _, some ⟨w5.heap.size, 0, none⟩, 3, rfl, cell_box m3 rfl, lit_ints (l := [1, 1, 1]) m1 (by decide)⟩
    | 1, _ => exact ⟨_, _, some ⟨w5.heap.size + 1, 0, none⟩, 3, rfl, cell_box m3 rfl, lit_ints (l := [0, 3, 1]) m2 (by decide)⟩⟩
  have HE := hid (express_any _ 2 [[1, 1, 1], [0, 3, 1]] _ 3 [2, 5, 3] _ hrw (lit_ints (l := [2, 5, 3]) m4 (by decide)) (by decide) (by decide))
  have HI9 := hid (HI8.out.below mb); have HR9 := hid (HR8.out.below mb)
  have HBU : Hid (Below w.heap.size w ((((w5.alloc (.cells #[.int .i64 1, .int .i64 1, .int .i64 1] 3)).alloc (.cells #[.int .i64 0, .int .i64 3, .int .i64 1] 3)).alloc (.cells #[.slice (some ⟨w5.heap.size, 0, none⟩) 3 3, .slice (some ⟨w5.heap.size + 1, 0, none⟩) 3 3] 27)).alloc (.cells #[.int .i64 2, .int .i64 5, .int .i64 3] 3))) := hid (HBZ.out.trans (mb.mono HBZ.out.size))
  clear m1 m2 m3 m4 mb hrw HI8 HR8 HBZ HC2
  go_wp2_with fail
  refine HE.out.mono ?_
  rintro e w6 ⟨hb, (⟨h0, _⟩ | ⟨_, gn, rfl, hBl, _, _⟩)⟩
  · exact absurd ⟨by decide, by decide⟩ h0
  rw [show (exprA [[1, 1, 1], [0, 3, 1]] [2, 5, 3]).1 = [2, 1] by decide +kernel] at hBl
  rw [show (!(exprA [[1, 1, 1], [0, 3, 1]] [2, 5, 3]).2.any leftQ) = true by decide +kernel]
  have HIa := hid (HI9.out.below hb); have HRa := hid (HR9.out.below hb)
  have HBV : Hid (Below w.heap.size w w6) := hid (HBU.out.trans (hb.mono HBU.out.size))
  have HN6 := hid (hBl.ints (by decide))
  clear hb hBl HI9 HR9 HBU HE
  -- are they the same?
  obtain ⟨m1, m2, m3, m4, mb⟩ := alloc4 w6 (.cells #[.int .i64 0, .int .i64 3, .int .i64 1] 3) (.cells #[.int .i64 1, .int .i64 1, .int .i64 1] 3) (.cells #[.int .i64 3, .int .i64 0, .int .i64 2] 3) (.cells #[.slice (some ⟨w6.heap.size, 0, none⟩) 3 3, .slice (some ⟨w6.heap.size + 1, 0, none⟩) 3 3, .slice (some ⟨w6.heap.size + 1 + 1, 0, none⟩) 3 3] 27) _ rfl
  have hrw : RowsAt ((((w6.alloc (.cells #[.int .i64 0, .int .i64 3, .int .i64 1] 3)).alloc (.cells #[.int .i64 1, .int .i64 1, .int .i64 1] 3)).alloc (.cells #[.int .i64 3, .int .i64 0, .int .i64 2] 3)).alloc (.cells #[.slice (some ⟨w6.heap.size, 0, none⟩) 3 3, .slice (some ⟨w6.heap.size + 1, 0, none⟩) 3 3, .slice (some ⟨w6.heap.size + 1 + 1, 0, none⟩) 3 3] 27)) (some ⟨w6.heap.size + 3, 0, none⟩) [[0, 3, 1], [1, 1, 1], [3, 0, 2]] := ⟨by decide, fun i hi => by
    match i, hi with
    | 0, _ => exact ⟨_, _, some ⟨w6.heap.size, 0, none⟩, 3, rfl, cell_box m4 rfl, lit_ints (l := [0, 3, 1]) m1 (by decide)⟩
    | 1, _ => exact ⟨_, _, some ⟨w6.heap.size + 1, 0, none⟩, 3, rfl, cell_box m4 rfl, lit_ints (l := [1, 1, 1]) m2 (by decide)⟩
    | 2, _ => exact ⟨_, _, some ⟨w6.heap.size + 1 + 1, 0, none⟩, 3, rfl, cell_box m4 rfl, lit_ints (l := [3, 0, 2]) m3 (by decide)⟩⟩
  have HSA := hid (sameAll_any ql dl [[0, 3, 1], [1, 1, 1], [3, 0, 2]] _ 3 [[0, 3, 1], [1, 1, 1], [3, 0, 2]] _ (HRa.out.below mb) hrw)
  rw [decide_eq_true rfl] at HSA
  have HIb := hid (HIa.out.below mb); have HN7 := hid (HN6.out.below mb)
  have HBT : Hid (Below w.heap.size w ((((w6.alloc (.cells #[.int .i64 0, .int .i64 3, .int .i64 1] 3)).alloc (.cells #[.int .i64 1, .int .i64 1, .int .i64 1] 3)).alloc (.cells #[.int .i64 3, .int .i64 0, .int .i64 2] 3)).alloc (.cells #[.slice (some ⟨w6.heap.size, 0, none⟩) 3 3, .slice (some ⟨w6.heap.size + 1, 0, none⟩) 3 3, .slice (some ⟨w6.heap.size + 1 + 1, 0, none⟩) 3 3] 27))) := hid (HBV.out.trans (mb.mono HBV.out.size))
  clear m1 m2 m3 m4 mb hrw HIa HRa HBV HN6
  go_wp2_with fail
  refine HSA.out.mono ?_
  rintro e w7 ⟨rfl, hb⟩
  have n1 := World.alloc_heap_new w7 (.cells #[.int .i64 2, .int .i64 1] 3)
  have b1 := alloc_below0 w7 (.cells #[.int .i64 2, .int .i64 1] 3)
  have HS2 := hid (same_any (some ⟨gn, 0, none⟩) 2 [2, 1] (some ⟨w7.heap.size, 0, none⟩) 2 [2, 1] _ ((HN7.out.below hb).below b1) (lit_ints (l := [2, 1]) n1 (by decide)))
  rw [decide_eq_true rfl] at HS2
  have HIc := hid ((HIb.out.below hb).below b1)
  have HBS : Hid (Below w.heap.size w (w7.alloc (.cells #[.int .i64 2, .int .i64 1] 3))) := hid ((HBT.out.trans (hb.mono HBT.out.size)).trans (b1.mono (Nat.le_trans HBT.out.size hb.size)))
  clear n1 b1 hb HIb HN7 HBT HSA
  go_wp2_with fail
  refine HS2.out.mono ?_
  rintro e w8 ⟨rfl, hb⟩
  have HG := hid (gone_any _ 5 [1, 1, 1, 1, 1] _ 5 [1, 1, 1, 1, 1] _ (HIc.out.below hb) (HIc.out.below hb))
  have HBR : Hid (Below w.heap.size w w8) := hid (HBS.out.trans (hb.mono HBS.out.size))
  clear hb HIc HBS HS2
  go_wp2_with fail
  refine HG.out.mono ?_
  rintro e w9 ⟨hb, (⟨h0, _⟩ | ⟨_, vv, us, rfl, hmin, hX, _⟩)⟩
  · exact absurd (by decide) h0
  have hul : us.length = 25 := by have h := hmin.perm.length_eq; rw [List.length_map, five_len] at h; exact h
  obtain ⟨q9, d9, hv9⟩ := hX.form
  rw [hul] at hv9
  subst hv9
  have HBF : Hid (Below w.heap.size w w9) := hid (HBR.out.trans (hb.mono HBR.out.size))
  clear hb hmin hX hul HG HBR
  go_wp2_with fail
  go_ret
  exact ⟨rfl, HBF.out⟩
end Go.Proofs.Ytbdkogccjnmfoaa
