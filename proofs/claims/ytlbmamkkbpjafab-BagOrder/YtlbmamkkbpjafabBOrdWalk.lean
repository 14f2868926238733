/- The walk of BagOrder. -/
import Derived.Test.YtlbmamkkbpjafabBOrd
import Derived.Test.YtlbmamkkbpjafabBParts
namespace Go.Proofs.Ytlbmamkkbpjafab
open Go.RowKit Go.Deep Go.Shelf

attribute [local go_sem] Oper.semAt_some

set_option maxRecDepth 100000 in
set_option maxHeartbeats 8000000 in
theorem bagOrder_walk (a : Option Addr) (c : Nat) (l : List Th) (w : World) (hT : ThsAt w a l.length l) (hc : l.length ≤ c) :
    Calls Try.prog 3 #[.slice a l.length c] w fun e w' => e = .returned (.bool true) ∧ Below w.heap.size w w' := by
  refine (callsIn_wide (n := 20)).1 ?_
  have hsm := hT.small
  have HT := hid hT
  clear hT
  refine callsIn_of_wp_marks Try.func3 rfl trivial (wpIn_wide.2 ?_) rfl
  simp only [Try.ntmps3, List.size_toArray, List.length_cons, List.length_nil, Nat.reduceAdd, Nat.reduceSub, Array.replicate_succ, Array.replicate_zero, List.push_toArray, List.append_toArray, List.nil_append, List.cons_append]
  go_upto_region 1 with fail
  rename_i K1 hK1 K2 hK2
  have HREST : Hid (∀ (T : List Th) (u10 u11 u12 u13 u14 : Value), T.length ≤ 7 → ThsAt w a T.length T → K1 { tmps := #[.slice a T.length c, undef, .bool false, undef, undef, undef, undef, undef, undef, undef, u10, u11, u12, u13, u14, undef, undef, undef, undef, undef, undef, undef, undef, undef, undef, undef, undef, undef, undef, undef, undef, undef, undef, undef, undef, undef, undef, undef, undef, undef, undef, undef, undef, undef, undef, undef, undef, undef, undef, undef, undef, undef, undef, undef, undef, undef, undef, undef, undef, undef, undef, undef, undef, undef, undef, undef, undef, undef, undef, undef, undef, undef, undef, undef, undef, undef, undef, undef, undef, undef, undef, undef, undef, undef, undef, undef, undef, undef, undef, undef, undef, undef, undef, undef, undef, undef, undef, undef, undef], defers := [] } w) := hid (by
    intro T u10 u11 u12 u13 u14 h7 hT
    have HT := hid hT
    clear hT
    refine hK1 _ _ ?_
    go_wp2_with fail
    refine (new_ord w).mono ?_
    rintro e w1 ⟨X, rfl, hX, hzX, hbX⟩
    go_wp2_with fail
    refine (new_ord w1).mono ?_
    rintro e w2 ⟨Y, rfl, hY, hzY, hbY⟩
    have HTW : Hid (Tw w X Y [] [] none 0 none 0 w2) := hid ⟨⟨hX.below hbY, World.ownsRow_nil _ _ _ _, fun h => by cases h⟩, ⟨hY, World.ownsRow_nil _ _ _ _, fun h => by cases h⟩, (by have := hX.lt; omega), (fun g h => by cases h), hzX, Nat.le_trans hbX.size hzY, hbX.trans (hbY.mono hbX.size)⟩
    clear hX hY hzX hzY hbX hbY
    go_wp2_with fail
    go_loopw [5] (fun ov wr => ∃ (i : Nat) (px : Option Addr) (cx : Nat) (py : Option Addr) (cy : Nat), ov = .int .i64 i ∧ i ≤ T.length ∧ Tw w X Y (mkP (T.take i)) (mkP (T.reverse.take i)) px cx py cy wr) (fun ov _ => T.length - (intOf ov).toNat)
    case atStart => exact ⟨0, none, 0, none, 0, rfl, Nat.zero_le _, HTW.out⟩
    case round =>
      obtain ⟨i, px, cx, py, cy, rfl, hi, htw⟩ := hrel
      have HST := hid htw
      by_cases hlt : i < T.length
      · have hR : i < T.reverse.length := by rw [List.length_reverse]; exact hlt
        have hall := mkP_all (T.take i)
        have hallR := mkP_all (T.reverse.take i)
        have hmk := mkP_take T i hlt
        have hmkR := mkP_take T.reverse i hR
        have hcb := cnt_bd hall.2.1 T[i].1
        have hcbR := cnt_bd hallR.2.1 T.reverse[i].1
        have hs7 : sumN (mkP (T.take i)) ≤ 7 := by rw [hall.2.2, List.length_take]; omega
        have hs7R : sumN (mkP (T.reverse.take i)) ≤ 7 := by rw [hallR.2.2, List.length_take, List.length_reverse]; omega
        have hl7 : (mkP (T.take i)).length ≤ 1048576 := by have := len_sum _ hall.2.1; omega
        have hl7R : (mkP (T.reverse.take i)).length ≤ 1048576 := by have := len_sum _ hallR.2.1; omega
        have HADD := hid (add_any w.heap.size X px cx (mkP (T.take i)) T[i] 1 wr htw.x htw.low.size hall.1 hl7 (by omega) (by omega))
        have HADR : Hid (∀ W py cy, BagAt w.heap.size Y W (mkP (T.reverse.take i)) py cy → w.heap.size ≤ W.heap.size → Calls Try.prog 6 #[.pointer (some ⟨Y, 0, none⟩), thV T.reverse[i], .int .i64 1] W (AddEnd w.heap.size Y py T.reverse[i] 1 (mkP (T.reverse.take i)) W)) := hid fun W py cy hA hW => add_any w.heap.size Y py cy (mkP (T.reverse.take i)) T.reverse[i] 1 W hA hW hallR.1 hl7R (by omega) (by omega)
        obtain ⟨b1, o1, rfl, e1, e2⟩ := (HT.out.below (htw.low.mono (Nat.le_refl _))).cells i hlt
        have hj : T.length - 1 - i < T.length := by omega
        have hrv : T.reverse[i] = T[T.length - 1 - i] := List.getElem_reverse hR
        have HE : Hid (∀ W, Below w.heap.size w W → W.cell? ⟨b1, o1 + (T.length - 1 - i) * 2, none⟩ = some (.int .i64 T.reverse[i].1) ∧ W.cell? ⟨b1, o1 + (T.length - 1 - i) * 2 + 1, none⟩ = some (.int .i64 T.reverse[i].2)) := hid fun W hW => by
          obtain ⟨b1', o1', h1, h2, h3⟩ := (HT.out.below hW).cells (T.length - 1 - i) hj
          cases h1
          rw [hrv]
          exact ⟨h2, h3⟩
        have HMK := hid hmk; have HMR := hid hmkR
        clear hall hallR hmk hmkR hcb hcbR hs7 hs7R hl7 hl7R htw hrv
        obtain ⟨x, hxx⟩ : ∃ x, T[i] = x := ⟨_, rfl⟩
        obtain ⟨y, hyy⟩ : ∃ y, T.reverse[i] = y := ⟨_, rfl⟩
        rw [hxx] at HADD e1 e2 HMK
        rw [hyy] at HADR HE HMR
        obtain ⟨xk, xm⟩ := x
        obtain ⟨yk, ym⟩ := y
        generalize mkP (T.take i) = MX at HADD HMK HST
        generalize mkP (T.reverse.take i) = MY at HADR HMR HST
        dsimp only [thV] at e1 e2 HADD HADR HE
        clear hxx hyy
        go_wp2_with fail
        refine HADD.out.mono ?_
        intro e w3 ha3
        obtain ⟨p3, c3, rfl, ht3⟩ := HST.out.addx ha3
        have HT3 := hid ht3
        obtain ⟨e3, e4⟩ := HE.out w3 ht3.low
        clear ha3 ht3
        go_wp2_with fail
        refine (HADR.out w3 _ _ HT3.out.y HT3.out.low.size).mono ?_
        intro e w4 ha4
        obtain ⟨p4, c4, rfl, ht4⟩ := HT3.out.turn.addx ha4
        have HT4 := hid ht4
        clear ha4 ht4
        go_wp2_with fail
        go_roundw
        case rel =>
          refine ⟨i + 1, p3, c3, p4, c4, by go_num, by omega, ?_⟩
          rw [HMK.out, HMR.out]
          exact HT4.out.turn
        case measure => simp [intOf]; omega
      · have he : i = T.length := by omega
        have hX : T.take i = T := List.take_of_length_le (by omega)
        have hY : T.reverse.take i = T.reverse := List.take_of_length_le (by rw [List.length_reverse]; omega)
        rw [hX, hY] at HST
        obtain ⟨hLB, hLn⟩ := mk_bg T (by omega)
        obtain ⟨hRB, hRn⟩ := mk_bg T.reverse (by rw [List.length_reverse]; omega)
        obtain ⟨hcnt, hw1, hw2⟩ := turn_all T
        have hLs := (mkP_all T).2.2
        clear htw hX hY
        generalize mkP T = L at HST hLB hLn hcnt hw1 hw2 hLs
        generalize mkP T.reverse = R at HST hRB hRn hcnt hw1 hw2
        have HLB := hid hLB; have HRB := hid hRB; have HCN := hid hcnt; have HW1 := hid hw1; have HW2 := hid hw2; have HLS := hid hLs
        have HPR := hid (fun k => prN_128 hLB.pos (by omega : sumN L ≤ 7) k)
        clear hLB hRB hcnt hw1 hw2 hLs
        have HIT := hid (items_any w.heap.size X px cx L wr HST.out.x hLn)
        go_wp2_with fail
        refine HIT.out.mono ?_
        rintro e w5 ⟨v', rfl, hO5, hb5⟩
        obtain ⟨p5, c5, rfl⟩ := owns65_form hO5
        have HT5 := hid (HST.out.below hb5); have HO5 := hid hO5
        clear hO5 hb5 HIT HST
        go_wp2_with fail
        go_loopw [6, 8] (fun on oi wr => ∃ i : Nat, oi = .int .i64 i ∧ i ≤ L.length ∧ on = .int .i64 (prN (L.take i)) ∧ Below w5.heap.size w5 wr) (fun _ oi _ => L.length - (intOf oi).toNat)
        case atStart => exact ⟨0, rfl, Nat.zero_le _, rfl, Below.refl _ _⟩
        case round =>
          obtain ⟨k, rfl, hk, rfl, hb6⟩ := hrel
          by_cases hlt6 : k < L.length
          · have hits := owns_its (owns_fr HO5.out (Fr.of_below (A := fun _ => False) hb6) (fun _ _ h => h))
            obtain ⟨b1, o1, rfl, e1, e2, e3⟩ := hits.cells k hlt6
            have hcn := HCN.out L[k] (List.getElem_mem hlt6)
            have hpk := HPR.out k
            have hpq := HPR.out (k + 1)
            have hpr : prN (L.take (k + 1)) = prN (L.take k) * (L[k].2 + 1) := by
              rw [List.take_succ_eq_append_getElem hlt6, prN_app]
              show _ * ((L[k].2 + 1) * 1) = _
              rw [Int.mul_one]
            have hyn := sumN_le L HLB.out.pos k hlt6
            have hsn := HLB.out.sum
            have HT6 := hid (HT5.out.below hb6)
            have hmk := len_sum L HLB.out.pos
            obtain ⟨y, hyi⟩ : ∃ y, L[k] = y := ⟨_, rfl⟩
            rw [hyi] at e1 e2 e3 hcn hpr hyn
            obtain ⟨⟨yk, ym⟩, yn⟩ := y
            dsimp only at e1 e2 e3 hcn hpr hyn
            have HC8 : Hid (∀ W', Below wr.heap.size wr W' → Calls Try.prog 8 #[.pointer (some ⟨Y, 0, none⟩), .agg #[.int .i64 yk, .int .i64 ym]] W' fun e w' => e = .returned (.int .i64 yn) ∧ Below W'.heap.size W' w') := hid fun W' hW => by
              have hB := HT6.out.y.below hW
              have h := Count_any Y py cy R (yk, ym) W' hB.1 (owns_its hB.2.1) HRB.out.srt hRn
              dsimp only [thV] at h
              rw [hcn] at h
              exact h
            have HPQ := hid hpr
            obtain ⟨P, hP⟩ : ∃ P, prN (L.take k) = P := ⟨_, rfl⟩
            obtain ⟨Q, hQ⟩ : ∃ Q, prN (L.take (k + 1)) = Q := ⟨_, rfl⟩
            rw [hP] at hpk hpr
            rw [hQ] at hpq hpr
            have HQ := hid hQ; have HB6 := hid hb6
            rw [hP]
            clear hits hcn hP hQ hyi hb6
            have hmul : P * (yn + 1) = Q := hpr.symm
            clear hpr
            go_wp2_with fail
            have hne := later_some wr
            have d0 := later_cell e1; have d1 := later_cell e2; have d2 := later_cell e3
            clear e1 e2 e3
            refine wp_region_later (by kernel_rfl) (by kernel_rfl) ?_
            repeat (go_big_quiet_step (first | (go_at_call 8; with_reducible refine calls_later (HC8.out _ ?_); exact Later.below _) | fail))
            refine wpQuiet_nil ?_
            intro _ hw'
            obtain ⟨b4, hw''⟩ := hw'
            subst hw''
            have HB7 := hid (HB6.out.trans (b4.below.mono HB6.out.size))
            clear d0 d1 d2 hne HC8
            go_wp2_with fail
            go_roundw
            case rel => exact ⟨k + 1, by go_num, by omega, by rw [HQ.out], HB7.out⟩
            case measure => simp [intOf]; omega
          · have hkL : k = L.length := by omega
            have htk : L.take k = L := List.take_of_length_le (by omega)
            have hpk := HPR.out k
            have HT6 := hid (HT5.out.below hb6)
            rw [htk] at hpk ⊢
            obtain ⟨P, hP⟩ : ∃ P, prN L = P := ⟨_, rfl⟩
            rw [hP] at hpk ⊢
            have HP := hid hP
            clear hP htk hb6
            have HOS := hid (fun r => ok_start HT6.out HLB.out.pos r _ rfl)
            have hzX := HT6.out.x.1.lt
            go_wp2_with fail
            refine (parts_any X _).mono ?_
            rintro e w7 ⟨rfl, rfl⟩
            rw [World.size_alloc]
            go_wp2_with fail
            generalize hA2 : ((wr.alloc (.cells #[.int .i64 0] 3)).alloc (.cells #[.pointer (some ⟨X, 0, none⟩)] 23)) = A2 at HOS ⊢
            clear hA2
            have hA2 := (HOS.out default).1
            generalize wr.heap.size = z at HOS hA2 ⊢
            refine (wpIn_wide (n := 20)).1 ?_
            refine range_law (n := 20) rfl (by omega) (gf := 19) (lb := #[.pointer (some ⟨z + 1, 0, none⟩)]) rfl trivial (enters_of Try.func19 (by kernel_rfl) rfl) ?_
            intro r hr1 hr2 hr3 hr4 hr5 hr6 hr7
            obtain ⟨_, hS0, hOK0⟩ := HOS.out r
            rw [hA2]
            generalize ((A2.alloc (.deferred (some []))).alloc (.loop r)) = W0 at hS0 hOK0 ⊢
            clear HOS
            refine (parts_in 11 (z + 2 + 1) (z + 1) X w.heap.size px cx L HLB.out hLn ?_ (P.toNat + 1)
              (fun _ k st W => OK w z X Y L R px cx py cy r k st W) (fun _ _ => False) W0 ?_ ?_ ?_ ?_ (by omega) ?_ ?_).mono ?_
            · intro y hy
              obtain ⟨i, hi, rfl⟩ := List.getElem_of_mem hy
              have := sumN_le L HLB.out.pos i hi
              have := HLB.out.sum
              omega
            · intro B1 k st W W' h hf
              rw [hS0] at hf
              exact h.fr hf
            · exact fun _ _ _ h _ => h
            · exact fun B1 k st W h => ⟨h.zb, h.tw.x.1⟩
            · rintro mm B1 k cs W Bp pp cp hB1 hk hok hcl hA hBp
              refine yield_by hr5 hr6 hr3 hr4 hok.zl hr1 rfl hr7 ?_
              have hrk := rk_lt L cs HLB.out.pos hok.rk.1
              have hrk2 : rkN L cs = k := hok.rk.2
              rw [HP.out, hrk2] at hrk
              have HOK := hid hok
              rw [hS0] at hB1
              clear hr3 hr4 hr5 hr6 hok hA hOK0 hA2 hBp hcl
              simp only [List.zip_toArray, List.zip_cons_cons, List.zip_nil_right, List.foldl_toArray, List.foldl_cons, List.foldl_nil, List.setIfInBounds_toArray, List.set_cons_succ, List.set_cons_zero]
              gi_wp2
              refine ⟨HOK.out.zl, ?_⟩
              show Code.wpIn _ _ _ _ _ _ (W.putObj (z + 2 + 1) (.loop { r with state := .busy }))
              have hzn := (World.putObj_heap_other (o := .loop { r with state := .busy }) (show z ≠ z + 2 + 1 by omega)).trans HOK.out.zn
              have hst := HOK.out.step (r' := { r with state := .busy }) HLB.out.pos _ rfl
              obtain ⟨Wb, hWb⟩ : ∃ Wb, W.putObj (z + 2 + 1) (.loop { r with state := .busy }) = Wb := ⟨_, rfl⟩
              rw [show W.putObj (z + 3) (.loop { r with state := .busy }) = Wb from hWb] at hst
              rw [hWb] at hzn ⊢
              have HST := hid hst
              have c0 : Wb.cell? ⟨z, 0, none⟩ = some (.int .i64 k) := cell_box hzn rfl
              have f0 : Wb.frozen? ⟨z, 0, none⟩ = false := by simp only [World.frozen?, hzn]; rfl
              clear hzn hst hWb
              gi_wp2_with fail
              obtain ⟨z1, z2, z3⟩ := HST.out
              refine ⟨z1, ?_⟩
              rw [loop_again hr1 hr2]
              exact ⟨fun b h1 _ => z2 b (by rw [hS0] at h1; omega), .inl ⟨rfl, by omega, z3⟩⟩
            · exact fun _ _ => hOK0
            · exact hOK0.tw.x
            · rintro e W ⟨⟨v, rfl⟩, B1, hB1, (⟨k, hok⟩ | hx)⟩
              · refine ⟨⟨v, rfl⟩, hok.zd, .inl ⟨hok.zl, ?_⟩⟩
                have hlt := (Array.getElem?_eq_some_iff.1 hok.zl).1
                have hs : ∀ b, b < z → (W.putObj (z + 2 + 1) (.loop { r with state := .exhausted })).heap[b]? = W.heap[b]? := fun b hb => World.putObj_heap_other (by omega)
                have HT7 := hid (hok.tw.keep hok.far hs (hok.tw.low.trans ((fr_one (z + 2 + 1) (.loop { r with state := .exhausted })).below (fun b e => by have := hok.far.2.2.2.2; omega) hok.tw.low.size)))
                have hzn := (World.putObj_heap_other (o := .loop { r with state := .exhausted }) (show z ≠ z + 2 + 1 by omega)).trans hok.zn
                have hkP : (k : Int) = P := by rw [← HP.out]; exact hok.rk
                rw [hkP] at hzn
                have HZN := hid hzn
                have HZD := hid ((World.putObj_heap_other (o := .loop { r with state := .exhausted }) (show z + 2 ≠ z + 2 + 1 by omega)).trans hok.zd)
                have hzw := hok.far.2.2.2.2
                clear hr1 hr2 hr3 hr4 hr5 hr6 hr7 hok hOK0 hA2 hs hzn hkP hlt
                generalize W.putObj (z + 2 + 1) (.loop { r with state := .exhausted }) = W3 at HT7 HZN HZD ⊢
                have hw1 := within_any X Y w.heap.size w.heap.size px cx py cy L R W3 HT7.out.x HT7.out.y hLn HRB.out hRn
                rw [HW1.out] at hw1
                have HC1 := hid hw1
                clear hw1
                go_wp2_with fail
                refine HC1.out.mono ?_
                rintro e W4 ⟨rfl, hb4⟩
                have HT8 := hid (HT7.out.below hb4)
                have HD4 := hid ((hb4.block _ (Array.getElem?_eq_some_iff.1 HZD.out).1).trans HZD.out)
                have HZ4 := hid ((hb4.block _ (Array.getElem?_eq_some_iff.1 HZN.out).1).trans HZN.out)
                have hw2 := within_any Y X w.heap.size w.heap.size py cy px cx R L W4 HT8.out.y HT8.out.x hRn HLB.out hLn
                rw [HW2.out] at hw2
                have HC2 := hid hw2
                clear hw2 hb4 HC1
                go_wp2_with fail
                refine HC2.out.mono ?_
                rintro e W5 ⟨rfl, hb5⟩
                have HT9 := hid (HT8.out.below hb5)
                have HD5 := hid ((hb5.block _ (Array.getElem?_eq_some_iff.1 HD4.out).1).trans HD4.out)
                have hz5 := (hb5.block _ (Array.getElem?_eq_some_iff.1 HZ4.out).1).trans HZ4.out
                have c5' : W5.cell? ⟨z, 0, none⟩ = some (.int .i64 P) := cell_box hz5 rfl
                have hln := len_any X px cx L W5 HT9.out.x.1 (owns_its HT9.out.x.2.1) hLn (fun k _ => by have := sumN_bd L HLB.out.pos k; have := HLS.out; omega) (fun i hi => by have := sumN_le L HLB.out.pos i hi; have := HLS.out; omega)
                rw [HLS.out] at hln
                have HC3 := hid hln
                clear hln hb5 hz5 HC2
                go_wp2_with fail
                refine HC3.out.mono ?_
                rintro e W6 ⟨rfl, hb6⟩
                have HT10 := hid (HT9.out.below hb6)
                have HD6 := hid ((hb6.block _ (Array.getElem?_eq_some_iff.1 HD5.out).1).trans HD5.out)
                clear c5' HC3
                go_wp2_with fail
                refine ⟨by simp, .inl ⟨_, _, rfl, run_takeDeferred HD6.out, ?_⟩⟩
                exact ⟨_, results_tmp rfl _ _ _, rfl, HT10.out.low.trans ((fr_one (z + 2) _).below (fun b e => by omega) HT10.out.low.size)⟩
              · exact hx.elim)
  clear hK1
  by_cases h7 : 7 < l.length
  · go_wp2_with fail
    have e7 : (l.take 7).length = 7 := by rw [List.length_take]; omega
    have h := HREST.out (l.take 7)
    rw [e7] at h
    exact h _ _ _ _ _ (by omega) (HT.out.take 7 (by omega))
  · go_wp2_with fail
    exact HREST.out l _ _ _ _ _ (by omega) HT.out
end Go.Proofs.Ytlbmamkkbpjafab
