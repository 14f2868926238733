/- The walk of BagPlays. -/
import Derived.Test.YtlbmamkkbpjafaaBMade
namespace Go.Proofs.Ytlbmamkkbpjafaa
open Go.RowKit Go.Deep

theorem int_rem (n : Int) : -1000 ≤ n.tmod 1000 ∧ n.tmod 1000 ≤ 1000 := by
  have h1 := Int.tmod_lt_of_pos n (by decide : (0 : Int) < 1000)
  have h2 := Int.lt_tmod_of_pos n (by decide : (0 : Int) < 1000)
  omega
theorem box_below {W W' : World} {Y : Nat} {cs : Array Value} {t : TypeId} (h : W.heap[Y]? = some (.cells cs t (0, 0))) (hb : Below W.heap.size W W') : W'.heap[Y]? = some (.cells cs t (0, 0)) := (hb.block Y (Array.getElem?_eq_some_iff.1 h).1).trans h
theorem bl_over {w w1 : World} (h : Below w.heap.size w w1) (o : Obj) : Below w.heap.size w (w1.alloc o) := h.alloc h.size _
theorem bl_set {w w1 : World} {g : Nat} (h : Below w.heap.size w w1) (hg : w.heap.size ≤ g) (i : Nat) (v : Value) : Below w.heap.size w (w1.setCell ⟨g, i, none⟩ v) := h.setCell (p := ⟨g, i, none⟩) hg v
theorem PlSt.far {w wr : World} {B Y g : Nat} {l : List It} {p : Option Addr} {c : Nat} {q : Option Addr} {d : Nat} (h : PlSt w wr B Y l p c q d) {u : Value} (hg : wr.heap[g]? = some (.cells #[u] 27 (0, 0))) (hw : w.heap.size ≤ g) (hne : g ≠ Y) (v : Value) : PlSt w (wr.setCell ⟨g, 0, none⟩ v) B Y l p c q d :=
  ⟨bag_far h.bag hg (by decide) (by decide) v, (set_far (Ne.symm hne) v).trans h.box, owns60_far h.row hg (by decide) v, h.hB, h.hY, h.srt, h.pos, h.low.setCell (p := ⟨g, 0, none⟩) hw v⟩
set_option maxRecDepth 100000 in
set_option maxHeartbeats 8000000 in
theorem bagPlays_walk (a0 : Option Addr) (c0 : Nat) (sc : List It) (a1 : Option Addr) (c1 : Nat) (ak : List Th) (w : World) (hS : ItsAt w a0 sc.length sc) (hT : ThsAt w a1 ak.length ak) :
    Calls Try.prog 3 #[.slice a0 sc.length c0, .slice a1 ak.length c1] w fun e w' => e = .returned (.bool true) ∧ Below w.heap.size w w' := by
  have hs1 := hS.small; have hs2 := hT.small
  unfold maxLen at hs1 hs2
  have HSc := hid hS; have HTh := hid hT
  have hm0 := made_any none 0 [] w ⟨rfl, by decide, fun i hi => absurd hi (Nat.not_lt_zero _)⟩ (by decide)
  have HM0 := hid hm0
  clear hS hT hm0
  go_enter Try.func3, Try.ntmps3
  go_wp2_with fail
  refine HM0.out.mono ?_
  rintro e w1 ⟨B, p, c, q, d, rfl, hA1, hO1, hB1, hb1⟩
  have b2 := alloc_below0 w1 (.cells #[.slice none 0 0] 27)
  have N2 := World.alloc_heap_new w1 (.cells #[.slice none 0 0] 27)
  have y2 : (w1.alloc (.cells #[.slice none 0 0] 27)).cell? ⟨w1.heap.size, 0, none⟩ = some (.slice none 0 0) := cell_box N2 rfl
  have HST0 : Hid (PlSt w (w1.alloc (.cells #[.slice q (mkP []).length d] 27)) B w1.heap.size (mkP []) p c q d) := hid
    ⟨hA1.below (alloc_below0 w1 _), World.alloc_heap_new w1 _, owns60_below hO1 (alloc_below0 w1 _), hB1, hb1.size, (mkP_all []).1, (mkP_all []).2.1, hb1.alloc hb1.size _⟩
  clear hA1 hO1 b2 N2 HM0
  go_wp2_with fail
  clear y2
  generalize w1.alloc (.cells #[.slice q (mkP []).length d] 27) = V at HST0 ⊢
  generalize w1.heap.size = Y at HST0 ⊢
  go_loopw [7, 8, 9, 10, 11, 12] (fun iv _ _ _ _ _ wr => ∃ (i : Nat) (l : List It) (p : Option Addr) (c : Nat) (q : Option Addr) (d : Nat), iv = .int .i64 i ∧ i ≤ sc.length ∧ PlSt w wr B Y l p c q d ∧ sumN l ≤ 5000) (fun iv _ _ _ _ _ _ => sc.length - (intOf iv).toNat)
  case atStart => exact ⟨0, mkP [], p, c, q, d, rfl, Nat.zero_le _, HST0.out, by decide⟩
  case round =>
    obtain ⟨i, l, p, c, q, d, rfl, hi, hst, hsum⟩ := hrel
    have HST := hid hst
    have hlen : l.length ≤ 5000 := hst.len hsum
    by_cases hlt : i < sc.length
    · obtain ⟨b1, o1, rfl, e1, e2, e3⟩ := (HSc.out.below hst.low).cells i hlt
      obtain ⟨x, hxx⟩ : ∃ x, sc[i] = x := ⟨_, rfl⟩
      rw [hxx] at e1 e2 e3
      obtain ⟨⟨xk, xm⟩, xn⟩ := x
      dsimp only at e1 e2 e3
      have HE : Hid (∀ W, Below w.heap.size w W → W.cell? ⟨b1, o1 + i * 3, none⟩ = some (.int .i64 xk) ∧ W.cell? ⟨b1, o1 + i * 3 + 1, none⟩ = some (.int .i64 xm)) := hid fun W hW => by
        obtain ⟨b1', o1', h1, h2, h3, _⟩ := (HSc.out.below hW).cells i hlt
        cases h1
        rw [hxx] at h2 h3
        exact ⟨h2, h3⟩
      clear hxx hst e1 e2
      go_upto_region 8 with fail
      clear e3
      go_cut [36] (fun v wc => v = .bool (decide (1000 < xn ∨ xn < -1000)) ∧ wc = wr)
      case first =>
        by_cases h1 : 1000 < xn
        · go_wp2_with fail
          go_meet
          exact ⟨by simp [h1], rfl⟩
        · by_cases h2 : xn < -1000
          · go_wp2_with fail
            go_meet
            exact ⟨by simp [h2], rfl⟩
          · go_wp2_with fail
            go_meet
            exact ⟨by simp [h1, h2], rfl⟩
      case rest =>
      obtain ⟨rfl, rfl⟩ := hcut
      go_upto_if 36 with fail
      go_cut [8] (fun v wc2 => ∃ n : Int, v = .int .i64 n ∧ -1000 ≤ n ∧ n ≤ 1000 ∧ wc2 = wc)
      case first =>
        by_cases h1 : 1000 < xn ∨ xn < -1000
        · rw [decide_eq_true h1]
          go_wp2_with fail
          go_meet
          exact ⟨_, rfl, (int_rem xn).1, (int_rem xn).2, rfl⟩
        · rw [decide_eq_false h1]
          go_wp2_with fail
          go_meet
          exact ⟨_, rfl, by omega, by omega, rfl⟩
      case rest =>
        obtain ⟨n, rfl, hn1, hn2, rfl⟩ := hcut
        have hcb := cnt_bd HST.out.pos xk
        have HR : Hid (∀ W, W.ownsRow w.heap.size 60 3 (.slice q l.length d) l.length (itAll l) → w.heap.size ≤ W.heap.size → Calls Try.prog 10 #[.agg #[.slice q l.length d], .agg #[.int .i64 xk, .int .i64 xm], .int .i64 n] W (RAddAll w.heap.size (xk, xm) n l W)) := hid fun W hO hW => radd_any w.heap.size q d l (xk, xm) n W hO hW (by omega) (fun y hy => ⟨HST.out.pos y hy, by
          obtain ⟨k, hk, rfl⟩ := List.getElem_of_mem hy
          have := sumN_le _ HST.out.pos k hk
          omega⟩) (by omega)
        have HADD : Hid (∀ W, BagAt w.heap.size B W l p c → w.heap.size ≤ W.heap.size → Calls Try.prog 11 #[.pointer (some ⟨B, 0, none⟩), .agg #[.int .i64 xk, .int .i64 xm], .int .i64 n] W (AddEnd w.heap.size B p (xk, xm) n l W)) := hid fun W hA hW => add_any w.heap.size B p c l (xk, xm) n W hA hW HST.out.srt (by omega) (by omega) (by dsimp only; omega)
        obtain ⟨e1, e2⟩ := HE.out wc HST.out.low
        have y0 : wc.cell? ⟨Y, 0, none⟩ = some (.slice q l.length d) := cell_box HST.out.box rfl
        have HSUM := hid (addP_sum (xk, xm) n l)
        have HSR := hid (addP_srt (xk, xm) n l HST.out.srt)
        have HPO := hid (addP_pos (xk, xm) n l HST.out.pos)
        obtain ⟨L, hL⟩ : ∃ L, (addP (xk, xm) n l).2 = L := ⟨_, rfl⟩
        obtain ⟨ok, hok⟩ : ∃ ok, (addP (xk, xm) n l).1 = ok := ⟨_, rfl⟩
        unfold RAddAll at HR
        unfold AddEnd at HADD
        rw [hL, hok] at HR HSUM HADD
        rw [hL] at HSR HPO
        have hsL : sumN L ≤ 6000 := by
          have h := HSUM.out
          split at h <;> omega
        have hlL : L.length ≤ 6000 := by
          have := len_sum L HPO.out
          omega
        clear hcb hL hok
        have Q0 := hid y0; have Q1 := hid e1; have Q2 := hid e2
        go_wp2_with fail
        clear y0 e1 e2
        go_cut [9, 10] (fun pv bv wd => ∃ (g : Nat) (q' : Option Addr) (d' : Nat), pv = .pointer (some ⟨g, 0, none⟩) ∧ bv = .bool ok ∧ PlSt w wd B Y l p c q d ∧ wd.heap[g]? = some (.cells #[.slice q' L.length d'] 27 (0, 0)) ∧ wd.ownsRow w.heap.size 60 3 (.slice q' L.length d') L.length (itAll L))
        case first =>
          go_region_held3 (fun w' => w'.cell? ⟨Y, 0, none⟩ = some (.slice q l.length d) ∧ w'.cell? ⟨b1, o1 + i * 3, none⟩ = some (.int .i64 xk) ∧ w'.cell? ⟨b1, o1 + i * 3 + 1, none⟩ = some (.int .i64 xm)) ((first
            | (refine ⟨?_, ?_, ?_⟩ <;> (with_reducible refine below_cell (w := wc) ?_ _ _ ?_; (solve | (repeat' first | (with_reducible exact Below.refl _ wc) | (with_reducible exact HB4.out) | (with_reducible refine Below.drew ?_) | (with_reducible refine bl_over ?_ _) | (with_reducible refine bl_set ?_ (Nat.le_refl _) _ _) | (with_reducible refine bl_set ?_ HB4.out.size _ _))); first | exact Q0.out | exact Q1.out | exact Q2.out))
            | fail)) ((first
            | (go_at_call 10; refine Calls.mono (HR.out _ ?_ ?_) ?_; (first | exact HST.out.row | exact owns60_below (W' := World.drew (World.alloc wc (.cells #[.slice none 0 0] 27))) HST.out.row ((alloc_below0 wc _).drew)); (first | exact HST.out.low.size | exact Nat.le_trans HST.out.low.size (alloc_below0 wc (.cells #[.slice none 0 0] 27)).size); rintro e w4 ⟨q', d', rfl, ho4, hb4⟩; first
              | (have HN4 : Hid (w4.heap[wc.heap.size]? = some (.cells #[.slice none 0 0] 27 (0, 0))) := box_below (W := World.drew (World.alloc wc (.cells #[.slice none 0 0] 27))) (World.alloc_heap_new wc _) hb4; have HB4 : Hid (Below wc.heap.size wc w4) := ((alloc_below0 wc (.cells #[.slice none 0 0] 27)).drew).trans (hb4.mono (alloc_below0 wc (.cells #[.slice none 0 0] 27)).size); have HO4 := hid ho4; have k4 : w4.cell? ⟨wc.heap.size, 0, none⟩ = some (.slice none 0 0) := cell_box HN4.out rfl; have z4 : w4.frozen? ⟨wc.heap.size, 0, none⟩ = false := (by simp [World.frozen?, HN4.out]); clear ho4 hb4)
              | (have HB4 : Hid (Below wc.heap.size wc w4) := ((Below.refl _ wc).drew).trans hb4; have HO4 := hid ho4; clear ho4 hb4))
            | fail))
          all_goals (go_wp2_with fail; go_meet)
          all_goals first
            | exact ⟨w4.heap.size, q', d', rfl, rfl, (HST.out.below HB4.out).below (alloc_below0 w4 _), World.alloc_heap_new w4 _, owns60_below HO4.out (alloc_below0 w4 _)⟩
            | exact ⟨wc.heap.size, q', d', rfl, rfl, (HST.out.below HB4.out).far HN4.out (Nat.le_trans HST.out.low.size (Nat.le_refl _)) (Nat.ne_of_gt (Array.getElem?_eq_some_iff.1 HST.out.box).1) _, set1 HN4.out, owns60_far HO4.out HN4.out (by decide) _⟩
        case rest =>
          obtain ⟨g, q', d', rfl, rfl, hst, hbx, hrw⟩ := hcut
          have HSM := hid hst; have HBX := hid hbx; have HRW := hid hrw
          obtain ⟨e1, e2⟩ := HE.out wc hst.low
          have hne1 := bag_apart hst.bag hbx (by decide) (by decide)
          clear hst hbx hrw Q0 Q1 Q2 HR HST
          go_wp2_with fail
          refine (HADD.out wc HSM.out.bag HSM.out.low.size).mono ?_
          rintro e w5 ⟨p5, c5, rfl, hA5, hF5, _⟩
          have hL5 : Below w.heap.size wc w5 := hF5.below (fun k hk => by
            rcases hk with rfl | hk
            · exact HSM.out.hB
            · exact (HSM.out.bag.2.1.lt k (by rw [own_eq]; exact hk)).1) HSM.out.low.size
          have hY5 : w5.heap[Y]? = some (.cells #[.slice q l.length d] 27 (0, 0)) := (hF5.same Y (Array.getElem?_eq_some_iff.1 HSM.out.box).1 (bag_apart HSM.out.bag HSM.out.box (by decide) (by decide))).trans HSM.out.box
          have hG5 : w5.heap[g]? = some (.cells #[.slice q' L.length d'] 27 (0, 0)) := (hF5.same g (Array.getElem?_eq_some_iff.1 HBX.out).1 hne1).trans HBX.out
          have hO5 := owns60_add HSM.out.bag HRW.out hF5
          have hW5 := HSM.out.low.trans hL5
          have y5 : w5.cell? ⟨Y, 0, none⟩ = some (.slice q l.length d) := cell_box hY5 rfl
          have z5 : w5.frozen? ⟨Y, 0, none⟩ = false := by simp [World.frozen?, hY5]
          have g5 : w5.cell? ⟨g, 0, none⟩ = some (.slice q' L.length d') := cell_box hG5 rfl
          have hS6 : PlSt w (w5.setCell ⟨Y, 0, none⟩ (.slice q' L.length d')) B Y L p5 c5 q' d' := ⟨bag_far hA5 hY5 (by decide) (by decide) _, set1 hY5, owns60_far hO5 hY5 (by decide) _, HSM.out.hB, HSM.out.hY, HSR.out, HPO.out, hW5.setCell (p := ⟨Y, 0, none⟩) HSM.out.hY _⟩
          have hg6 : (w5.setCell ⟨Y, 0, none⟩ (.slice q' L.length d')).cell? ⟨g, 0, none⟩ = some (.slice q' L.length d') := by
            by_cases hgY : g = Y
            · rw [hgY]
              exact cell_box (set1 hY5) rfl
            · exact cell_box ((set_far hgY _).trans hG5) rfl
          have HS6 := hid hS6
          have hy6 : (w5.setCell ⟨Y, 0, none⟩ (.slice q' L.length d')).cell? ⟨Y, 0, none⟩ = some (.slice q' L.length d') := cell_box hS6.box rfl
          have HG6 := hid hg6; have HY6 := hid hy6
          clear hL5 hY5 hG5 hO5 hW5 hA5 hF5 hS6 hne1 HADD hg6 hy6 e1 e2
          go_upto_region 13 with fail
          clear y5 z5 g5
          generalize w5.setCell ⟨Y, 0, none⟩ (.slice q' L.length d') = V6 at HS6 HG6 HY6 ⊢
          have g6 := HG6.out
          go_wp2_with fail
          refine (rlen_any q' d' L V6 (its_of60 HS6.out.row) (by omega) (fun k _ => by have := sumN_bd L HPO.out k; omega)).mono ?_
          rintro e w7 ⟨rfl, hb7⟩
          have HS7 := hid (HS6.out.below hb7)
          clear hb7 g6 HG6 HY6 HS6
          by_cases h5 : 5000 < sumN L
          · go_wp2_with fail
            go_ret
            exact ⟨rfl, HS7.out.low⟩
          · have y7 : w7.cell? ⟨Y, 0, none⟩ = some (.slice q' L.length d') := cell_box HS7.out.box rfl
            go_wp2_with fail
            clear y7
            refine (reads_any w.heap.size B p5 c5 w.heap.size q' d' L w7 HS7.out.bag HS7.out.row HS7.out.srt (by omega) HS7.out.pos (by omega)).mono ?_
            rintro e w8 ⟨rfl, hb8⟩
            have HS8 := hid (HS7.out.below hb8)
            clear hb8
            go_wp2_with fail
            go_roundw
            case rel => exact ⟨i + 1, L, p5, c5, q', d', by go_num, by omega, HS8.out, by omega⟩
            case measure => simp [intOf]; omega
    · have he : i = sc.length := by omega
      clear hst
      go_wp2_with fail
      go_loopw [13] (fun jv wr2 => ∃ (j : Nat), jv = .int .i64 j ∧ j ≤ ak.length ∧ PlSt w wr2 B Y l p c q d) (fun jv _ => ak.length - (intOf jv).toNat)
      case atStart => exact ⟨0, rfl, Nat.zero_le _, HST.out⟩
      case round =>
        obtain ⟨j, rfl, hj, hst2⟩ := hrel
        have HST2 := hid hst2
        have y0 : wr.cell? ⟨Y, 0, none⟩ = some (.slice q l.length d) := cell_box hst2.box rfl
        by_cases hjl : j < ak.length
        · obtain ⟨b1, o1, rfl, e1, e2⟩ := (HTh.out.below hst2.low).cells j hjl
          obtain ⟨x, hxx⟩ : ∃ x, ak[j] = x := ⟨_, rfl⟩
          rw [hxx] at e1 e2
          obtain ⟨xk, xm⟩ := x
          dsimp only at e1 e2
          have HC14 : Hid (∀ W, Below wr.heap.size wr W → Calls Try.prog 14 #[.pointer (some ⟨B, 0, none⟩), .agg #[.int .i64 xk, .int .i64 xm]] W fun e w' => e = .returned (.int .i64 (cntK xk l)) ∧ Below W.heap.size W w') := hid fun W hW => by
            have hB := (HST2.out.below hW).bag
            exact Count_any B p c l (xk, xm) W hB.1 (owns_its hB.2.1) HST2.out.srt (by omega)
          have HC15 : Hid (∀ W, Below wr.heap.size wr W → Calls Try.prog 15 #[.agg #[.slice q l.length d], .agg #[.int .i64 xk, .int .i64 xm]] W fun e w' => e = .returned (.int .i64 (cntK xk l)) ∧ Below W.heap.size W w') := hid fun W hW => rcount_any q d l (xk, xm) W (its_of60 (HST2.out.below hW).row) (by omega)
          clear hst2 hxx
          go_wp2_with fail
          have hne := later_some wr
          have d0 := later_cell y0; have d1 := later_cell e1; have d2 := later_cell e2
          clear y0 e1 e2
          refine wp_region_later (by kernel_rfl) (by kernel_rfl) ?_
          repeat (go_big_quiet_step (first | (go_at_call 14; with_reducible refine calls_later (HC14.out _ ?_); exact Later.below _) | (go_at_call 15; with_reducible refine calls_later (HC15.out _ ?_); exact Later.below _) | fail))
          refine wpQuiet_nil ?_
          intro _ hw'
          obtain ⟨b4, hw''⟩ := hw'
          subst hw''
          have HS4 := hid (HST2.out.below b4.below)
          clear d0 d1 d2 hne HC14 HC15
          go_wp2_with fail
          go_roundw
          case rel => exact ⟨j + 1, by go_num, by omega, HS4.out⟩
          case measure => simp [intOf]; omega
        · go_wp2_with fail
          refine (reads_any w.heap.size B p c w.heap.size q d l wr HST2.out.bag HST2.out.row HST2.out.srt (by omega) HST2.out.pos (by omega)).mono ?_
          rintro e w8 ⟨rfl, hb8⟩
          have HS8 := hid (HST2.out.below hb8)
          clear hb8
          go_wp2_with fail
          go_ret
          exact ⟨rfl, HS8.out.low⟩
end Go.Proofs.Ytlbmamkkbpjafaa
