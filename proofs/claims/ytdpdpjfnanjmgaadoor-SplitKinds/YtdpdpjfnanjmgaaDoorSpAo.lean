/- SplitKinds' walk. -/
import Derived.Test.YtdpdpjfnanjmgaaDoorSpAn
import Derived.Test.YtdpdpjfnanjmgaaDoorSpAm
namespace Go.Proofs.YtdpdpjfnanjmgaaDoor
open Go.RowKit Go.Shelf

attribute [local go_sem] Oper.semAt_some
set_option maxRecDepth 100000 in
set_option maxHeartbeats 8000000 in
theorem kinds_bad (a b : Option Addr) (c d : Nat) (m k : List Int) (w : World) (hM : IntsAt w a m) (hK : IntsAt w b k) (hTab : Tab w) (h : chkE m k ≠ 0) :
    Calls Tryd.prog 6 #[.slice a m.length c, .slice b k.length d] w fun en w' => en = .returned (.bool true) ∧ Below w.heap.size w w' := by
  have HL := hid (lives_any w hTab)
  have hne : (chkE m k != 0) = true := by simpa using h
  obtain ⟨ck, hck⟩ : ∃ ck, chkE m k = ck := ⟨_, rfl⟩
  have HC := hid hck
  rw [hck] at hne
  have HM := hid hM; have HK := hid hK
  clear hM hK hTab h hck
  refine (callsIn_wide (n := 12)).1 ?_
  refine callsIn_of_wp_marks Tryd.func6 rfl trivial (wpIn_wide.2 ?_) rfl
  simp only [Tryd.ntmps6, List.size_toArray, List.length_cons, List.length_nil, Nat.reduceAdd, Nat.reduceSub, Array.replicate_succ, Array.replicate_zero, List.push_toArray, List.append_toArray, List.nil_append, List.cons_append]
  go_wp2_with fail
  refine HL.out.mono ?_
  rintro en w2 ⟨rfl, hb2⟩
  have HRC := hid (rchk_any a b c d m k w2 (HM.out.below hb2) (HK.out.below hb2))
  rw [HC.out] at HRC
  have HB2 := hid hb2
  clear hb2
  go_wp2_with fail
  refine HRC.out.mono ?_
  rintro en w3 ⟨rfl, rfl⟩
  go_wp2_with fail
  exact ⟨_, results_tmp rfl _ _ _, rfl, HB2.out⟩
/-- The walk over the ways. -/
structure KdK (m k : List Nat) (Ws : World) (lim N lp : Nat) (r : Loop) (i : Nat) (M : Nat → Prop) (W : World) : Prop where
  ak : AK Ws lim (fun b => b = N ∨ b = lp) M W
  cnt : W.heap[N]? = some (.cells #[.int .i64 ((fullTo m k i : Nat) : Int)] 3 (0, 0))
  lp : W.heap[lp]? = some (.loop r)
set_option maxRecDepth 100000 in
set_option maxHeartbeats 8000000 in
theorem kinds_fine (a b : Option Addr) (c d : Nat) (m k : List Nat) (w : World) (hM : IntsAt w a (up m)) (hK : IntsAt w b (up k)) (hTab : Tab w) (hF : Fine m k) (ha : a = none → c = 0) :
    Calls Tryd.prog 6 #[.slice a m.length c, .slice b k.length d] w fun en w' => en = .returned (.bool true) ∧ Below w.heap.size w w' := by
  have HL := hid (lives_any w hTab)
  have HM := hid hM; have HK := hid hK; have HF := hid hF; have HA := hid ha; have HTAB := hid hTab
  have HK1 : Hid (∀ x ∈ k, 1 ≤ x) := hid fun x hx => (hF.often x hx).1
  clear hM hK hTab hF ha
  refine (callsIn_wide (n := 12)).1 ?_
  refine callsIn_of_wp_marks Tryd.func6 rfl trivial (wpIn_wide.2 ?_) rfl
  simp only [Tryd.ntmps6, List.size_toArray, List.length_cons, List.length_nil, Nat.reduceAdd, Nat.reduceSub, Array.replicate_succ, Array.replicate_zero, List.push_toArray, List.append_toArray, List.nil_append, List.cons_append]
  go_wp2_with fail
  refine HL.out.mono ?_
  rintro en w2 ⟨rfl, hb2⟩
  have hrc := rchk_any a b c d (up m) (up k) w2 (HM.out.below hb2) (HK.out.below hb2)
  rw [fine_chk HF.out, up_len, up_len] at hrc
  have HRC := hid hrc
  have HB2 := hid hb2
  clear hb2 hrc
  go_wp2_with fail
  refine HRC.out.mono ?_
  rintro en w3 ⟨rfl, rfl⟩
  clear HRC HL
  go_wp2_with fail
  have hm5 := HF.out.few
  go_loopw [6, 7, 8, 9] (fun pv jv _ _ wr => ∃ j : Nat, j ≤ m.length ∧ jv = .int .i64 (j : Int) ∧ pv = .int .i64 ((min 5000 (prodTo k m j) : Nat) : Int) ∧ Below w.heap.size w wr) (fun _ jv _ _ _ => m.length - (intOf jv).toNat)
  case atStart => exact ⟨0, Nat.zero_le _, rfl, rfl, HB2.out⟩
  case round =>
    obtain ⟨j, hj, rfl, rfl, hbr⟩ := hrel
    by_cases hlt : j < m.length
    · obtain ⟨mb, mo, rfl, hmc⟩ := up_int (HM.out.below hbr) hlt
      obtain ⟨x, hx⟩ : ∃ x, m.getD j 0 = x := ⟨_, rfl⟩
      have hx6 : x ≤ 6 := by rw [← hx, List.getD_eq_getElem?_getD, List.getElem?_eq_getElem hlt]; exact HF.out.small _ (List.getElem_mem _)
      rw [hx] at hmc
      obtain ⟨W1, hW1⟩ : ∃ W1, wr.alloc (.cells #[.int .i64 (x : Int)] 3) = W1 := ⟨_, rfl⟩
      have hb1 : Below wr.heap.size wr W1 := by rw [← hW1]; exact alloc_below0 _ _
      have hI1 : IntsAt W1 (some ⟨wr.heap.size, 0, none⟩) (up [x]) := by
        have h := ints_new wr [x] (by simp)
        rw [← hW1]; exact h
      have hbw := hbr.trans (hb1.mono hbr.size)
      have hct := count_any (some ⟨wr.heap.size, 0, none⟩) b 1 d [x] k true 5000 W1 hI1 (HK.out.below hbw) ⟨by simp, HF.out.takers, fun y hy => by rw [List.mem_singleton] at hy; subst hy; exact hx6, HF.out.often⟩ (by decide) (HTAB.out.below hbw)
      obtain ⟨n, hn⟩ : ∃ n, (waysF [x] k true).length = n := ⟨_, rfl⟩
      have hnx : min 5000 (min 5000 (prodTo k m j) * min n 5000) = min 5000 (prodTo k m (j + 1)) := by rw [cut_mul, prodTo, hx, hn]
      obtain ⟨p, hp⟩ : ∃ p, min 5000 (prodTo k m j) = p := ⟨_, rfl⟩
      have hp5 : p ≤ 5000 := by omega
      obtain ⟨n', hn'⟩ : ∃ n', min n 5000 = n' := ⟨_, rfl⟩
      have hn5 : n' ≤ 5000 := by omega
      rw [hn, hn'] at hct
      rw [hp, hn'] at hnx
      rw [hp]
      obtain ⟨q, hq⟩ : ∃ q, p * n' = q := ⟨_, rfl⟩
      have hq5 : q ≤ 25000000 := by
        have : p * n' ≤ 5000 * 5000 := Nat.mul_le_mul hp5 hn5
        omega
      have hmul : (p : Int) * (n' : Int) = (q : Int) := by rw [← hq]; simp
      have w1' : IntKind.i64.wrap (q : Int) = (q : Int) := IntWalk.i64_in _ (by constructor <;> omega)
      rw [hq] at hnx
      have HCT := hid hct; have HNX := hid hnx; have HBW := hid hbw
      clear hct hbw hbr hb1 hI1 hx hn hnx hp hn' hq hp5 hn5
      go_wp2_with fail
      refine HCT.out.mono ?_
      rintro en w5 ⟨rfl, hb5⟩
      have HB5 := hid (HBW.out.trans (hb5.mono HBW.out.size))
      clear hb5
      go_wp2_with fail
      go_roundw
      case rel =>
        refine ⟨j + 1, by omega, by go_num, ?_, HB5.out⟩
        rw [← HNX.out]
        congr 1
        split <;> omega
      case measure => simp [intOf]; omega
    · have e1 : j = m.length := by omega
      subst e1
      obtain ⟨Z, hZ⟩ : ∃ Z, (waysF m k true).length = Z := ⟨_, rfl⟩
      rw [← prodTo_all HK1.out, hZ]
      have hct := count_any a b c d m k true 5000 wr (HM.out.below hbr) (HK.out.below hbr) HF.out (by decide) (HTAB.out.below hbr)
      rw [hZ] at hct
      have HCT := hid hct; have HBR := hid hbr; have HZ := hid hZ
      clear hct hbr hZ
      go_wp2_with fail
      refine HCT.out.mono ?_
      rintro en w5 ⟨rfl, hb5⟩
      have HB5 := hid (HBR.out.trans (hb5.mono HBR.out.size))
      clear hb5
      have hcm : ((min 5000 Z : Nat) : Int) = ((min Z 5000 : Nat) : Int) := by rw [Nat.min_comm]
      rw [hcm]
      clear hcm
      by_cases hbig : 5000 ≤ Z
      · rw [show min Z 5000 = 5000 by omega]
        clear hbig
        go_wp2_with fail
        exact ⟨_, results_tmp rfl _ _ _, rfl, HB5.out⟩
      · rw [show min Z 5000 = Z by omega]
        have hZ5 : ((Z : Int) == 5000) = false := by simp; omega
        have HAL := hid (all_any a b c d m k true w5 (HM.out.below HB5.out) (HK.out.below HB5.out) HF.out HA.out)
        have HZL : Hid (Z < 5000) := hid (by omega)
        clear hbig
        go_wp2_with fail
        refine HAL.out.mono ?_
        rintro en w4 ⟨X, Fb, p4, c4, f, rfl, hX4, hF4, hD4, hSv, hcr, hf4, hb4⟩
        have hs4 := hb4.size
        have HD4 := hid hD4; have HSV := hid hSv; have HCR := hid hcr; have HF4 := hid hf4; have HB4 := hid hb4; have HX4 := hid hX4
        obtain ⟨W5, hW5⟩ : ∃ W5, (w4.alloc (.cells #[.int .i64 0] 3)).setCell ⟨w4.heap.size, 0, none⟩ (.int .i64 0) = W5 := ⟨_, rfl⟩
        have b1 := alloc_below0 w4 (.cells #[.int .i64 0] 3)
        have hb5 : Below w4.heap.size w4 W5 := by
          rw [← hW5]
          exact b1.setCell (p := ⟨w4.heap.size, 0, none⟩) (Nat.le_refl _) _
        have hn5 : W5.heap[w4.heap.size]? = some (.cells #[.int .i64 0] 3 (0, 0)) := by
          rw [← hW5]
          exact block_set (World.alloc_heap_new w4 _) _
        have hs5 : W5.heap.size = w4.heap.size + 1 := by rw [← hW5, show ∀ (W : World) a v, (W.setCell a v).heap.size = W.heap.size from fun W a v => by simp [World.setCell], World.size_alloc]
        have HB5' := hid hb5; have HN5 := hid hn5; have HS5 := hid hs5; have HS4 := hid hs4
        clear hD4 hSv hcr hf4 hb4 hX4 hF4 hs4 b1 hb5 hn5 hs5
        have hnil := nil28 #[.pointer (some ⟨X, 0, none⟩), .pointer (some ⟨Fb, 0, none⟩)] w4
        go_upto_block 2 with (fail)
        clear hW5
        refine (wpIn_wide (n := 12)).1 ?_
        gi_wp2_with fail
        refine range_law rfl (by omega) (gf := 28) (lb := #[.pointer (some ⟨X, 0, none⟩), .pointer (some ⟨Fb, 0, none⟩)]) rfl trivial (enters_of Tryd.func28 (by kernel_rfl) rfl) ?_
        intro r hr1 hr2 hr3 hr4 hr5 hr6 hr7
        rw [HS5.out]
        obtain ⟨N, hN⟩ : ∃ N, w4.heap.size = N := ⟨_, rfl⟩
        have HNN := hid hN
        rw [hN] at HB5' HN5 HS5 HS4 hr3 ⊢
        clear hN
        obtain ⟨Ws, hWs⟩ : ∃ Ws, (W5.alloc (.deferred (some []))).alloc (.loop r) = Ws := ⟨_, rfl⟩
        have b1 := alloc_below0 W5 (.deferred (some []))
        have b2 := alloc_below0 (W5.alloc (.deferred (some []))) (.loop r)
        have s1 : (W5.alloc (.deferred (some []))).heap.size = N + 2 := by rw [World.size_alloc, HS5.out]
        have hbs : Below W5.heap.size W5 Ws := by rw [← hWs]; exact b1.trans (b2.mono (by rw [World.size_alloc]; omega))
        have hss : Ws.heap.size = N + 3 := by rw [← hWs, World.size_alloc, s1]
        have hdf : Ws.heap[N + 1]? = some (.deferred (some [])) := by
          rw [← hWs]
          have h9 := World.alloc_heap_new W5 (.deferred (some []))
          rw [HS5.out] at h9
          exact (b2.block _ (by omega)).trans h9
        have hlp : Ws.heap[N + 1 + 1]? = some (.loop r) := by
          have h1 := World.alloc_heap_new (W5.alloc (.deferred (some []))) (.loop r)
          rw [s1] at h1
          rw [← hWs]
          exact h1
        rw [hWs]
        have HDF := hid hdf; have HLP := hid hlp; have HSS := hid hss; have HBS := hid hbs
        have HXL : Hid (w5.heap.size ≤ X ∧ X < N) := hid ⟨HX4.out, by rw [← HNN.out]; exact HD4.out.lt⟩
        have HPK : Hid (∀ g o, p4 = some ⟨g, o, none⟩ → g < N) := hid fun g o e => by
          rcases HCR.out.2 with ⟨h1, _⟩ | ⟨g', cap, cur, h1, h2, h3, _⟩
          · rw [e] at h1; cases h1
          · rw [e] at h1
            cases h1
            rw [← HNN.out]; exact (Array.getElem?_eq_some_iff.1 h3).1
        have HW0 : Hid (0 < N) := hid (by have := HXL.out; omega)
        clear b1 b2 s1 hbs hss hdf hlp hWs
        have HSM : Hid (∀ i M W, KdK m k Ws (N + 3) N (N + 1 + 1) r i M W → ∀ b, b < N → W.heap[b]? = w4.heap[b]?) := hid fun i M W h b hb => (h.ak.blk (by rw [HSS.out]; omega) (by omega) (by omega)).trans ((HBS.out.block _ (by rw [HS5.out]; omega)).trans (HB5'.out.block _ hb))
        have HMW : Hid (IntsAt w4 a (up m)) := hid ((HM.out.below HB5.out).below HB4.out)
        have HKW : Hid (IntsAt w4 b (up k)) := hid ((HK.out.below HB5.out).below HB4.out)
        have HTW : Hid (Tab w4) := hid ((HTAB.out.below HB5.out).below HB4.out)
        refine (all_in 7 (N + 1 + 1) X Fb m.length k.length c4 p4 k f ⟨[], m, needN true k⟩ (KdK m k Ws (N + 3) N (N + 1 + 1) r) (fun _ => False) Ws rfl HF.out.often HF.out.few HF.out.takers HSV.out (dl_ok true HF.out) rfl ?_ ?_ ?_ ?_ ?_).mono ?_
        · exact (HBS.out.block _ (by rw [HS5.out]; have := (Array.getElem?_eq_some_iff.1 HF4.out).1; have := HNN.out; omega)).trans ((HB5'.out.block _ (by have := (Array.getElem?_eq_some_iff.1 HF4.out).1; have := HNN.out; omega)).trans HF4.out)
        · rintro i M M' W W' hj hf hm
          have hk : ∀ q, q < N + 3 → q < W.heap.size → W'.heap[q]? = W.heap[q]? := fun q hq hq' => hf.same q hq' fun h => by have := hj.ak.mm _ h; omega
          have hz := hj.ak.sz
          exact ⟨hj.ak.go hf hm, (hk _ (by omega) (by omega)).trans hj.cnt, (hk _ (by omega) (by omega)).trans hj.lp⟩
        · rintro i M W hj
          have hx := HXL.out
          refine ⟨HD4.out.same (HSM.out i M W hj X hx.2), (HCR.out.same fun b hb hb' => HSM.out i M W hj b (by rw [← HNN.out]; exact hb')).ints, fun q hq => (cell_same (HSM.out i M W hj 0 HW0.out)).trans (HTW.out q hq), fun h => ?_, fun h => ?_, fun a o e h => ?_⟩
          · have := hj.ak.mm _ h; omega
          · have := hj.ak.mm _ h; omega
          · have := hj.ak.mm _ h; have := HPK.out a o e; omega
        · rintro mm i M W v g bs hv hj hM hbs1 hbs2 hway
          rw [wd_all m k true] at hv
          have hvm : v ∈ waysF m k true := by
            obtain ⟨h1, h2⟩ := List.getElem?_eq_some_iff.1 hv
            rw [← h2]; exact List.getElem_mem _
          have hvl := way_len HK1.out hvm
          have HV := hid hv; have HVM := hid hvm; have HVL := hid hvl; have HMM := hid hM; have HB1 := hid hbs1; have HB2' := hid hbs2; have HWY := hid hway; have HJ := hid hj
          have hT5 := HF.out.takers
          refine yield_by hr5 hr6 hr3 hr4 hj.lp hr1 rfl hr7 ?_
          clear hv hvm hvl hM hbs1 hbs2 hway hj hr3 hr4 hr5 hr6
          simp only [List.zip_toArray, List.zip_cons_cons, List.zip_nil_right, List.foldl_toArray, List.foldl_cons, List.foldl_nil, List.setIfInBounds_toArray, List.set_cons_succ, List.set_cons_zero]
          gi_wp2_with fail
          refine ⟨HJ.out.lp, ?_⟩
          have hltl : N + 1 + 1 < W.heap.size := (Array.getElem?_eq_some_iff.1 HJ.out.lp).1
          have hbL : N + 3 ≤ bs := by have := HSS.out; have := HB2'.out; omega
          obtain ⟨W2, hW2⟩ : ∃ W2, W.putObj (N + 1 + 1) (.loop { r with state := .busy }) = W2 := ⟨_, rfl⟩
          have hF2 : Fr (fun b => b = N + 1 + 1) W W2 := by rw [← hW2]; exact fr_one _ _
          have hL2 : W2.heap[N + 1 + 1]? = some (.loop { r with state := .busy }) := by rw [← hW2]; exact World.putObj_heap_same hltl
          have hWy2 : WayAt W2 bs g m.length k.length (rowsN m.length k.length v) := HWY.out.same fun b hb hb' => hF2.same b hb' (by omega)
          have hn2 : W2.heap[N]? = some (.cells #[.int .i64 ((fullTo m k i : Nat) : Int)] 3 (0, 0)) := (hF2.same _ (by omega) (by omega)).trans HJ.out.cnt
          rw [hW2]
          have HF2 := hid hF2; have HL2 := hid hL2; have HWY2 := hid hWy2; have HN2 := hid hn2; have HBL := hid hbL
          clear hltl hF2 hL2 hWy2 hW2 hn2 hbL
          gi_wp2_with fail
          gi_loopw [15, 16, 17, 18] (fun ov qv _ _ wq => ∃ q : Nat, q ≤ k.length ∧ qv = .int .i64 (q : Int) ∧ ov = .bool (okTo m.length v q) ∧ Below W2.heap.size W2 wq) (fun _ qv _ _ _ => k.length - (intOf qv).toNat)
          case atStart => exact ⟨0, Nat.zero_le _, rfl, rfl, Below.refl _ _⟩
          case round =>
            obtain ⟨q, hq, rfl, rfl, hbr⟩ := hrel
            by_cases hlq : q < k.length
            · have HBR2 := hid hbr
              clear hbr
              obtain ⟨o0, ho0⟩ : ∃ o0, okTo m.length v q = o0 := ⟨_, rfl⟩
              rw [ho0]
              have HO0 := hid ho0
              clear ho0
              gi_wp2_with fail
              gi_loopw [17, 18] (fun sv jv wq => ∃ j : Nat, j ≤ m.length ∧ jv = .int .i64 (j : Int) ∧ sv = .int .i64 ((hasTo m.length q v j : Nat) : Int) ∧ Below W2.heap.size W2 wq) (fun _ jv _ => m.length - (intOf jv).toNat)
              case atStart => exact ⟨0, Nat.zero_le _, rfl, rfl, HBR2.out⟩
              case round =>
                obtain ⟨j, hj, rfl, rfl, hbr⟩ := hrel
                obtain ⟨pr, cr, hr1', hr2', hr3'⟩ := (HWY2.out.below hbr).row (i := q) (by rw [rowsN_len]; exact hlq)
                by_cases hlj : j < m.length
                · have hrow := rowsN_at k.length v HVL.out q hlq
                  rw [List.getD_eq_getElem?_getD, List.getElem?_eq_getElem (by rw [rowsN_len]; exact hlq)] at hrow
                  have hrow2 : (rowsN m.length k.length v)[q]'(by rw [rowsN_len]; exact hlq) = (List.range m.length).map fun j => v.getD (q * m.length + j) 0 := hrow
                  rw [hrow2] at hr2'
                  obtain ⟨rb, ro, rfl, hrc⟩ := up_int hr2' (i := j) (by simpa using hlj)
                  rw [getD_range _ _ hlj] at hrc
                  have hx6 := way_six HF.out HVM.out (q * m.length + j)
                  have hh := hasTo_le (K := m.length) (i := q) (fun p => way_six HF.out HVM.out p) j
                  obtain ⟨x, hx⟩ : ∃ x, v.getD (q * m.length + j) 0 = x := ⟨_, rfl⟩
                  have hnx : hasTo m.length q v (j + 1) = hasTo m.length q v j + x := by rw [hasTo, hx]
                  obtain ⟨s0, hs0⟩ : ∃ s0, hasTo m.length q v j = s0 := ⟨_, rfl⟩
                  rw [hs0] at hnx hh ⊢
                  rw [hx] at hrc hx6
                  obtain ⟨s1, hs1⟩ : ∃ s1, s0 + x = s1 := ⟨_, rfl⟩
                  have w2' : IntKind.i64.wrap ((s0 : Int) + (x : Int)) = (s1 : Int) := (IntWalk.i64_in _ (by constructor <;> omega)).trans (by omega)
                  have HNX := hid (hnx.trans hs1)
                  have HBR3 := hid hbr
                  clear hbr hr2' hr3' hrow hrow2 hx hnx hs0 hs1 hx6 hh
                  gi_wp2_with fail
                  go_roundw
                  case rel => exact ⟨j + 1, by omega, by go_num, by rw [HNX.out], HBR3.out⟩
                  case measure => simp [intOf]; omega
                · have e1 : j = m.length := by omega
                  subst e1
                  have hokn : okTo m.length v (q + 1) = (o0 && decide (0 < hasTo m.length q v m.length)) := by rw [okTo, HO0.out]
                  obtain ⟨x, hx⟩ : ∃ x, hasTo m.length q v m.length = x := ⟨_, rfl⟩
                  rw [hx] at hokn ⊢
                  have HBR3 := hid hbr; have HOK := hid hokn
                  clear hbr hr2' hr3' hx hokn
                  cases o0
                  all_goals
                    gi_wp2_with fail
                    go_roundw
                    case rel => exact ⟨q + 1, by omega, by go_num, by rw [HOK.out]; simp, HBR3.out⟩
                    case measure => simp [intOf]; omega
            · have e1 : q = k.length := by omega
              subst e1
              have hfs := fullTo_succ HV.out
              obtain ⟨o0, ho0⟩ : ∃ o0, okTo m.length v k.length = o0 := ⟨_, rfl⟩
              rw [ho0] at hfs ⊢
              obtain ⟨y, hy⟩ : ∃ y, fullTo m k i = y := ⟨_, rfl⟩
              have hyi : y ≤ i := by rw [← hy]; exact fullTo_le m k i
              have hiZ : i < Z := by rw [← HZ.out]; exact (List.getElem?_eq_some_iff.1 HV.out).1
              have hZ9 := HZL.out
              have hnr : wr.heap[N]? = some (.cells #[.int .i64 (y : Int)] 3 (0, 0)) := by
                rw [← hy]; exact (hbr.block _ (Array.getElem?_eq_some_iff.1 HN2.out).1).trans HN2.out
              have hlr : wr.heap[N + 1 + 1]? = some (.loop { r with state := .busy }) := (hbr.block _ (Array.getElem?_eq_some_iff.1 HL2.out).1).trans HL2.out
              have hbw : Fr (fun b => b = N ∨ b = N + 1 + 1) W wr := (HF2.out.mono fun q hq => .inr hq).trans (Fr.of_below hbr)
              have hcn : wr.cell? ⟨N, 0, none⟩ = some (.int .i64 (y : Int)) := cell_box hnr rfl
              have hfN : wr.frozen? ⟨N, 0, none⟩ = false := by simp [World.frozen?, hnr]
              rw [hy] at hfs
              have w1' : IntKind.i64.wrap ((y : Int) + 1) = (y : Int) + 1 := IntWalk.i64_in _ (by constructor <;> omega)
              have hj0 := HJ.out
              have HFS := hid hfs; have HBW := hid hbw; have HNR := hid hnr; have HLR := hid hlr; have HBR3 := hid hbr
              clear hfs hbw hnr hlr hbr hy ho0 hyi hiZ hZ9
              cases o0
              · gi_wp2_with fail
                have hF9 : Fr (fun b => b = N ∨ b = N + 1 + 1) W (wr.putObj (N + 1 + 1) (.loop { r with state := .ready, pending := none })) := HBW.out.trans ((fr_one _ _).mono fun q hq => .inr hq)
                refine ⟨HLR.out, fun b hb => hF9.same b (by have := HMM.out b hb; have := HB1.out; omega) (by have := HJ.out.ak.mm b hb; omega), hF9.low.size, .inl ⟨rfl, HJ.out.ak.own hF9, ?_, ?_⟩⟩
                · rw [HFS.out]
                  exact (World.putObj_heap_other (by omega)).trans HNR.out
                · rw [World.putObj_heap_same (Array.getElem?_eq_some_iff.1 HLR.out).1, loop_again hr1 hr2]
              · gi_wp2_with fail
                have hFs := fr_set wr N 0 (.int .i64 ((y : Int) + 1))
                have hLs : (wr.setCell ⟨N, 0, none⟩ (.int .i64 ((y : Int) + 1))).heap[N + 1 + 1]? = some (.loop { r with state := .busy }) := (set_far (by omega) _).trans HLR.out
                have hNs : (wr.setCell ⟨N, 0, none⟩ (.int .i64 ((y : Int) + 1))).heap[N]? = some (.cells #[.int .i64 ((y : Int) + 1)] 3 (0, 0)) := block_set HNR.out _
                have hF9 : Fr (fun b => b = N ∨ b = N + 1 + 1) W ((wr.setCell ⟨N, 0, none⟩ (.int .i64 ((y : Int) + 1))).putObj (N + 1 + 1) (.loop { r with state := .ready, pending := none })) := HBW.out.trans ((hFs.mono fun q hq => .inl hq).trans ((fr_one _ _).mono fun q hq => .inr hq))
                refine ⟨hLs, fun b hb => hF9.same b (by have := HMM.out b hb; have := HB1.out; omega) (by have := HJ.out.ak.mm b hb; omega), hF9.low.size, ⟨rfl, HJ.out.ak.own hF9, ?_, ?_⟩⟩
                · rw [HFS.out]
                  refine (World.putObj_heap_other (by omega)).trans ?_
                  rw [hNs]; simp
                · rw [World.putObj_heap_same (Array.getElem?_eq_some_iff.1 hLs).1, loop_again hr1 hr2]
        · refine ⟨⟨fun b hb => hb.elim, by rw [HSS.out]; exact Nat.le_refl _, Fr.refl _ _⟩, ?_, HLP.out⟩
          exact (HBS.out.block _ (by rw [HS5.out]; omega)).trans HN5.out
        · rintro e W ⟨hv, ⟨M, h⟩ | h⟩
          · have hcnt := h.cnt
            rw [wd_all m k true, fullTo_all HK1.out] at hcnt
            have hfr := h.ak.fr
            have hdeq : W.heap[N + 1]? = some (.deferred (some [])) := (hfr.same _ (by rw [HSS.out]; omega) (by omega)).trans HDF.out
            have hw5 : w.heap.size ≤ N := by have := HB5.out.size; have := HXL.out; omega
            have hbW : Below w.heap.size w W := by
              have h1 : Below w.heap.size w w4 := HB5.out.trans (HB4.out.mono HB5.out.size)
              have h2 : Below w.heap.size w4 Ws := (HB5'.out.mono (by omega)).trans (HBS.out.mono (by rw [HS5.out]; omega))
              exact h1.trans (h2.trans (hfr.below (fun q hq => by omega) (by rw [HSS.out]; omega)))
            have hlw : N + 1 + 1 < W.heap.size := by have := hfr.low.size; rw [HSS.out] at this; omega
            refine ⟨hv, hdeq, .inl ⟨h.lp, ?_⟩⟩
            obtain ⟨WZ, hWZ⟩ : ∃ WZ, W.putObj (N + 1 + 1) (.loop { r with state := .exhausted }) = WZ := ⟨_, rfl⟩
            have hDZ : WZ.heap[N + 1]? = some (.deferred (some [])) := by rw [← hWZ]; exact (World.putObj_heap_other (by omega)).trans hdeq
            have hBZ : Below w.heap.size w WZ := by rw [← hWZ]; exact hbW.trans ((fr_one (N + 1 + 1) _).below (fun q hq => by omega) hbW.size)
            have hNZ : WZ.heap[N]? = some (.cells #[.int .i64 (((waysF m k false).length : Nat) : Int)] 3 (0, 0)) := by rw [← hWZ]; exact (World.putObj_heap_other (by omega)).trans hcnt
            rw [hWZ]
            have hle : (waysF m k false).length ≤ Z := by
              rw [← HZ.out, ← fullTo_all HK1.out]
              exact fullTo_le m k _
            have hct := count_any a b c d m k false 5000 WZ (HM.out.below hBZ) (HK.out.below hBZ) HF.out (by decide) (HTAB.out.below hBZ)
            obtain ⟨y, hy⟩ : ∃ y, (waysF m k false).length = y := ⟨_, rfl⟩
            rw [hy] at hNZ hle hct
            rw [show min y 5000 = y by have := HZL.out; omega] at hct
            have HCT := hid hct; have HDZ := hid hDZ; have HBZ := hid hBZ; have HNZ := hid hNZ
            rename_i K1 hK1
            clear hcnt hfr hdeq hbW hWZ hDZ hBZ hNZ hct h hv
            refine hK1 _ _ ?_
            clear hK1
            go_wp2_with fail
            refine HCT.out.mono ?_
            rintro en w9 ⟨rfl, hb9⟩
            have hcn9 : w9.cell? ⟨N, 0, none⟩ = some (.int .i64 (y : Int)) := below_cell hb9 _ _ (cell_box HNZ.out rfl)
            have hd9 : w9.heap[N + 1]? = some (.deferred (some [])) := (hb9.block _ (Array.getElem?_eq_some_iff.1 HDZ.out).1).trans HDZ.out
            have HD9 := hid hd9; have HB9 := hid (HBZ.out.trans (hb9.mono HBZ.out.size))
            clear hb9 hd9
            go_wp2_with fail
            refine ⟨by simp, .inl ⟨_, _, rfl, run_takeDeferred HD9.out, ?_⟩⟩
            exact ⟨_, results_tmp rfl _ _ _, rfl, HB9.out.trans ((fr_one _ _).below (n := w.heap.size) (fun q hq => by omega) HB9.out.size)⟩
          · cases h
theorem kinds_walk (a b : Option Addr) (c d : Nat) (m k : List Int) (w : World) (hM : IntsAt w a m) (hK : IntsAt w b k) (hTab : Tab w) (ha : a = none → c = 0) :
    Calls Tryd.prog 6 #[.slice a m.length c, .slice b k.length d] w fun en w' => en = .returned (.bool true) ∧ Below w.heap.size w w' := by
  by_cases h : chkE m k = 0
  · obtain ⟨M, K, rfl, rfl, hF⟩ := chk_fine h
    rw [up_len, up_len]
    exact kinds_fine a b c d M K w hM hK hTab hF ha
  · exact kinds_bad a b c d m k w hM hK hTab h
end Go.Proofs.YtdpdpjfnanjmgaaDoor
