/- with: the tally when things of one kind more are dealt out. -/
import Derived.Test.YtdpdpjfnanjmgaaDoorSpAh
import Derived.Deep.CutBlock
namespace Go.Proofs.YtdpdpjfnanjmgaaDoor
open Go.RowKit Go.Shelf

attribute [local go_sem] Oper.semAt_some
theorem Tryd.arr42 : Tryd.prog.underlying 42 = some (.array 32 3) := by kernel_rfl
theorem index_tl (f : Nat → Nat) (s : Nat) (hs : s < 32) (W : World) : (Instr.index 42 (.agg (tlC f).toArray) (.int .i64 (s : Int))).run Tryd.prog W = .ok (.int .i64 ((f s : Nat) : Int)) W := by
  have h1 : (0 : Int) ≤ (s : Int) ∧ (s : Int) < ((32 : Nat) : Int) := by omega
  have h2 := tlC_at f hs
  simp [Instr.index, run_underlying Tryd.arr42, asIntOf, h1, go_sem]
  rw [if_pos hs, h2]
  rfl
theorem hz32 : (#[Value.int IntKind.i64 0, Value.int IntKind.i64 0, Value.int IntKind.i64 0, Value.int IntKind.i64 0, Value.int IntKind.i64 0, Value.int IntKind.i64 0, Value.int IntKind.i64 0, Value.int IntKind.i64 0, Value.int IntKind.i64 0, Value.int IntKind.i64 0, Value.int IntKind.i64 0, Value.int IntKind.i64 0, Value.int IntKind.i64 0, Value.int IntKind.i64 0, Value.int IntKind.i64 0, Value.int IntKind.i64 0, Value.int IntKind.i64 0, Value.int IntKind.i64 0, Value.int IntKind.i64 0, Value.int IntKind.i64 0, Value.int IntKind.i64 0, Value.int IntKind.i64 0, Value.int IntKind.i64 0, Value.int IntKind.i64 0, Value.int IntKind.i64 0, Value.int IntKind.i64 0, Value.int IntKind.i64 0, Value.int IntKind.i64 0, Value.int IntKind.i64 0, Value.int IntKind.i64 0, Value.int IntKind.i64 0, Value.int IntKind.i64 0] : Array Value) = (tlC fun _ => 0).toArray := by kernel_rfl
set_option maxRecDepth 100000 in
set_option maxHeartbeats 8000000 in
theorem with_any (A : List Nat) (n : Nat) (pk : Option Addr) (ck : Nat) (k : List Nat) (w : World) (hI : IntsAt w pk (up k)) (hF : Fine [n] k) (hA : ∀ a ∈ A, a < 32) (hAl : A.length ≤ 33232930569601) (hTab : Tab w) :
    Calls Tryd.prog 19 #[tlV A, .int .i64 (n : Int), .slice pk k.length ck] w fun e w' => e = .returned (tlV ((colsN n k).flatMap fun c => A.map (· ||| givenN c))) ∧ Below w.heap.size w w' := by
  obtain ⟨B, hB⟩ : ∃ B, ((colsN n k).flatMap fun c => A.map (· ||| givenN c)) = B := ⟨_, rfl⟩
  rw [hB]
  obtain ⟨ta, hta⟩ : ∃ ta, (tlC fun s => A.count s).toArray = ta := ⟨_, rfl⟩
  obtain ⟨WA, hWA⟩ : ∃ WA, w.alloc (.cells ta 42) = WA := ⟨_, rfl⟩
  obtain ⟨WB, hWB⟩ : ∃ WB, WA.alloc (.cells (tlC fun _ => 0).toArray 42) = WB := ⟨_, rfl⟩
  obtain ⟨WC, hWC⟩ : ∃ WC, WB.alloc (.cells (tlC fun _ => 0).toArray 42) = WC := ⟨_, rfl⟩
  obtain ⟨WD, hWD⟩ : ∃ WD, WC.alloc (.cells #[.int .i64 (n : Int)] 3) = WD := ⟨_, rfl⟩
  have hz := hz32
  have hbA : Below w.heap.size w WA := by rw [← hWA]; exact alloc_below0 _ _
  have hsA : WA.heap.size = w.heap.size + 1 := by rw [← hWA, World.size_alloc]
  have hbB : Below WA.heap.size WA WB := by rw [← hWB]; exact alloc_below0 _ _
  have hsB : WB.heap.size = w.heap.size + 2 := by rw [← hWB, World.size_alloc, hsA]
  have hbC : Below WB.heap.size WB WC := by rw [← hWC]; exact alloc_below0 _ _
  have hsC : WC.heap.size = w.heap.size + 3 := by rw [← hWC, World.size_alloc, hsB]
  have hbD : Below WC.heap.size WC WD := by rw [← hWD]; exact alloc_below0 _ _
  have hsD : WD.heap.size = w.heap.size + 4 := by rw [← hWD, World.size_alloc, hsC]
  have hTA : TlAt WD w.heap.size (fun s => A.count s) := by
    have h : TlAt WA w.heap.size (fun s => A.count s) := by rw [← hWA, ← hta]; exact World.alloc_heap_new w _
    exact ((h.below (hsA ▸ hbB)).below hbC).below hbD
  have hTB : TlAt WD (w.heap.size + 1) (fun _ => 0) := by
    have h : TlAt WB (w.heap.size + 1) (fun _ => 0) := by rw [← hsA, ← hWB]; exact World.alloc_heap_new WA _
    exact (h.below hbC).below hbD
  have hTC : TlAt WD (w.heap.size + 2) (fun _ => 0) := by
    have h : TlAt WC (w.heap.size + 2) (fun _ => 0) := by rw [← hsB, ← hWC]; exact World.alloc_heap_new WB _
    exact h.below hbD
  have hN : IntsAt WD (some ⟨w.heap.size + 3, 0, none⟩) (up [n]) := by
    refine ⟨by rw [up_len]; unfold maxLen; simp, fun i hi => ⟨_, _, rfl, ?_⟩⟩
    have e : i = 0 := by simp [up] at hi; omega
    subst e
    rw [← hsC, ← hWD]
    exact cell_box (World.alloc_heap_new WC _) rfl
  have hbw : Below w.heap.size w WD := hbA.trans ((hbB.mono hbA.size).trans ((hbC.mono (by omega)).trans (hbD.mono (by omega))))
  have HAL := hid (all_any (some ⟨w.heap.size + 3, 0, none⟩) pk 1 ck [n] k true WD hN (hI.below hbw) hF (by intro h; cases h))
  have HTA := hid hTA; have HTB := hid hTB; have HTC := hid hTC; have HBW := hid hbw; have HSD := hid hsD; have HI := hid hI; have HF := hid hF; have HA := hid hA; have HAB := hid hAl; have HTAB := hid hTab
  clear hbA hbB hbC hbD hTA hTB hTC hbw hI hF hA hAl hTab hN
  unfold tlV
  rw [hta]
  refine (callsIn_wide (n := 12)).1 ?_
  refine callsIn_of_wp_marks Tryd.func19 rfl trivial (wpIn_wide.2 ?_) rfl
  simp only [Tryd.ntmps19, List.size_toArray, List.length_cons, List.length_nil, Nat.reduceAdd, Nat.reduceSub, Array.replicate_succ, Array.replicate_zero, List.push_toArray, List.append_toArray, List.nil_append, List.cons_append]
  go_wp2_with fail
  refine HAL.out.mono ?_
  rintro e w4 ⟨X, Fb, p4, c4, f, rfl, hX4, hF4, hD4, hSv, hcr, hf4, hb4⟩
  have hs4 := hb4.size
  have HD4 := hid hD4; have HSV := hid hSv; have HCR := hid hcr; have HF4 := hid hf4; have HB4 := hid hb4; have HX4 := hid hX4; have HFB := hid hF4
  have hTw4 : Hid (TlAt w4 (w.heap.size + 2) (fun _ => 0)) := hid (HTC.out.below hb4)
  have hTA4 : Hid (TlAt w4 w.heap.size (fun s => A.count s)) := hid (HTA.out.below hb4)
  have hTB4 : Hid (TlAt w4 (w.heap.size + 1) (fun _ => 0)) := hid (HTB.out.below hb4)
  have hTb4 : Hid (Tab w4) := hid ((HTAB.out.below HBW.out).below hb4)
  have HS4 : Hid (w.heap.size + 4 ≤ w4.heap.size) := hid (by have := HSD.out; omega)
  clear hD4 hSv hcr hf4 hb4 hX4 hF4 hs4 hWA hWB hWC hWD hz HAL hsA hsB hsC hsD
  go_upto_block 0 with (fail)
  refine (wpIn_wide (n := 12)).1 ?_
  gi_wp2_with fail
  refine range_law rfl (by omega) (gf := 28) (lb := #[.pointer (some ⟨X, 0, none⟩), .pointer (some ⟨Fb, 0, none⟩)]) rfl trivial (enters_of Tryd.func28 (by kernel_rfl) rfl) ?_
  intro r hr1 hr2 hr3 hr4 hr5 hr6 hr7
  obtain ⟨Ws, hWs⟩ : ∃ Ws, (w4.alloc (.deferred (some []))).alloc (.loop r) = Ws := ⟨_, rfl⟩
  have b1 := alloc_below0 w4 (.deferred (some []))
  have b2 := alloc_below0 (w4.alloc (.deferred (some []))) (.loop r)
  have s1 : (w4.alloc (.deferred (some []))).heap.size = w4.heap.size + 1 := World.size_alloc _ _
  have hbs : Below w4.heap.size w4 Ws := by rw [← hWs]; exact b1.trans (b2.mono (by rw [World.size_alloc]; omega))
  have hss : Ws.heap.size = w4.heap.size + 2 := by rw [← hWs, World.size_alloc, s1]
  have hdf : Ws.heap[w4.heap.size]? = some (.deferred (some [])) := by
    rw [← hWs]
    exact (b2.block _ (by omega)).trans (World.alloc_heap_new w4 _)
  have hlp : Ws.heap[w4.heap.size + 1]? = some (.loop r) := by
    have h1 := World.alloc_heap_new (w4.alloc (.deferred (some []))) (.loop r)
    rw [s1] at h1
    rw [← hWs]
    exact h1
  obtain ⟨D, hD⟩ : ∃ D, w4.heap.size = D := ⟨_, rfl⟩
  have HD := hid hD
  rw [hD] at HS4 hss hdf hlp hbs ⊢
  rw [hWs]
  have HDF := hid hdf; have HLP := hid hlp; have HSS := hid hss; have HBS := hid hbs
  have HXL : Hid (w.heap.size + 4 ≤ X ∧ X < D) := hid ⟨by have := HX4.out; have := HSD.out; omega, by have := HD4.out.lt; omega⟩
  have HPK : Hid (∀ g o, p4 = some ⟨g, o, none⟩ → w.heap.size + 4 ≤ g ∧ g < D) := hid fun g o e => by
    rcases HCR.out.2 with ⟨h1, _⟩ | ⟨g', cap, cur, h1, h2, h3, _⟩
    · rw [e] at h1; cases h1
    · rw [e] at h1
      cases h1
      have := HSD.out
      exact ⟨by omega, by rw [← HD.out]; exact (Array.getElem?_eq_some_iff.1 h3).1⟩
  clear b1 b2 s1 hbs hss hdf hlp hWs hD
  have HSM : Hid (∀ i M W, WtK k n A Ws (D + 2) (w.heap.size + 2) (D + 1) r i M W → ∀ b, b < D → b ≠ w.heap.size + 2 → W.heap[b]? = w4.heap[b]?) := hid fun i M W h b hb hb2 => (h.ak.blk (by rw [HSS.out]; omega) (by omega) (by omega)).trans (HBS.out.block _ hb)
  refine (all_in 7 (D + 1) X Fb 1 k.length c4 p4 k f ⟨[], [n], needN true k⟩ (WtK k n A Ws (D + 2) (w.heap.size + 2) (D + 1) r) (fun _ => False) Ws rfl HF.out.often (by omega) HF.out.takers HSV.out (dl_ok true HF.out) rfl ?_ ?_ ?_ ?_ ?_).mono ?_
  · exact (HBS.out.block _ (by rw [← HD.out]; exact (Array.getElem?_eq_some_iff.1 HF4.out).1)).trans HF4.out
  · rintro i M M' W W' hj hf hm
    have h4 := HS4.out
    exact ⟨hj.ak.go hf hm, hj.tl.same (hf.same _ hj.tl.lt fun h => by have := hj.ak.mm _ h; omega), (hf.same _ (Array.getElem?_eq_some_iff.1 hj.lp).1 fun h => by have := hj.ak.mm _ h; omega).trans hj.lp⟩
  · rintro i M W hj
    have h4 := HS4.out
    have hx := HXL.out
    have hw := HSD.out
    have h0 : w.heap.size + 4 ≤ D := h4
    refine ⟨HD4.out.same (HSM.out i M W hj X hx.2 (by omega)), (HCR.out.same fun b hb hb' => HSM.out i M W hj b (by rw [← HD.out]; exact hb') (by omega)).ints, fun q hq => (cell_same (HSM.out i M W hj 0 (by omega) (by omega))).trans (hTb4.out q hq), fun h => ?_, fun h => ?_, fun a o e h => ?_⟩
    · have := hj.ak.mm _ h; omega
    · have := hj.ak.mm _ h; omega
    · have := hj.ak.mm _ h; have := HPK.out a o e; omega
  · rintro mm i M W v g bs hv hj hM hbs1 hbs2 hway
    rw [show wd 1 k ⟨[], [n], needN true k⟩ = colsN n k from wd_all [n] k true] at hv
    have hvm : v ∈ colsN n k := by
      obtain ⟨h1, h2⟩ := List.getElem?_eq_some_iff.1 hv
      rw [← h2]; exact List.getElem_mem _
    have hvl : v.length = k.length := by
      have := way_len (m := [n]) (fun x hx => (HF.out.often x hx).1) hvm
      simpa using this
    have HV := hid hv; have HVL := hid hvl; have HM := hid hM; have HB1 := hid hbs1; have HB2 := hid hbs2; have HWY := hid hway; have HJ := hid hj
    obtain ⟨T, hT⟩ : ∃ T, k.length = T := ⟨_, rfl⟩
    have HT := hid hT
    have hT5 : T ≤ 5 := by rw [← hT]; exact HF.out.takers
    rw [hT]
    refine yield_by hr5 hr6 hr3 hr4 hj.lp hr1 rfl hr7 ?_
    clear hv hvm hvl hM hbs1 hbs2 hway hj hr3 hr4 hr5 hr6 hT
    simp only [List.zip_toArray, List.zip_cons_cons, List.zip_nil_right, List.foldl_toArray, List.foldl_cons, List.foldl_nil, List.setIfInBounds_toArray, List.set_cons_succ, List.set_cons_zero]
    gi_wp2_with fail
    refine ⟨HJ.out.lp, ?_⟩
    have hltl : D + 1 < W.heap.size := (Array.getElem?_eq_some_iff.1 HJ.out.lp).1
    obtain ⟨W2, hW2⟩ : ∃ W2, W.putObj (D + 1) (.loop { r with state := .busy }) = W2 := ⟨_, rfl⟩
    have hF2 : Fr (fun b => b = w.heap.size + 2 ∨ b = D + 1) W W2 := by rw [← hW2]; exact (fr_one _ _).mono fun q hq => .inr hq
    have hL2 : W2.heap[D + 1]? = some (.loop { r with state := .busy }) := by rw [← hW2]; exact World.putObj_heap_same hltl
    have hbD : D + 2 ≤ bs := by have := HSS.out; have := HB2.out; omega
    have hWy2 : WayAt W2 bs g 1 k.length (rowsN 1 k.length v) := HWY.out.same fun b hb hb' => hF2.same b hb' (by have := HS4.out; omega)
    have hT2 : TlAt W2 (w.heap.size + 2) (fun s => (afterN k n i A).count s) := HJ.out.tl.same (by rw [← hW2]; exact World.putObj_heap_other (by have := HS4.out; omega))
    rw [hW2]
    have HF2 := hid hF2; have HL2 := hid hL2; have HWY2 := hid hWy2; have HT2 := hid hT2; have HBD := hid hbD
    clear hltl hF2 hL2 hWy2 hT2 hW2 hbD
    gi_wp2_with fail
    gi_loopw [9, 10, 11, 21] (fun gv _ _ iv wr => ∃ j : Nat, j ≤ T ∧ iv = .int .i64 (j : Int) ∧ gv = .int .i64 ((givenN (v.take j) : Nat) : Int) ∧ W2 = wr) (fun _ _ _ iv _ => T - (intOf iv).toNat)
    case atStart => exact ⟨0, Nat.zero_le _, rfl, rfl, rfl⟩
    case round =>
      obtain ⟨j, hj, rfl, rfl, rfl⟩ := hrel
      by_cases hlt : j < T
      · have hjl : j < (rowsN 1 k.length v).length := by rw [rowsN_len, HT.out]; exact hlt
        obtain ⟨p, c, hc1, hc2, hc3⟩ := HWY2.out.row hjl
        have hvl := HVL.out
        have hkT := HT.out
        have hr := rowsN_at k.length v (by rw [Nat.one_mul]; exact hvl) j (by omega)
        rw [List.getD_eq_getElem?_getD, List.getElem?_eq_getElem hjl] at hr
        have hrow : (rowsN 1 k.length v)[j] = [v.getD j 0] := by simpa using hr
        rw [hrow] at hc2
        obtain ⟨b, o, rfl, hc4⟩ := up_int hc2 (i := 0) (by simp)
        obtain ⟨x, hx⟩ : ∃ x, v.getD j 0 = x := ⟨_, rfl⟩
        have hxj : v[j]'(by omega) = x := by
          rw [← hx, List.getD_eq_getElem?_getD, List.getElem?_eq_getElem (by omega)]; rfl
        rw [hx, List.getD_cons_zero, Nat.add_zero] at hc4
        have hgt := given_take (c := v) (i := j) (by omega)
        rw [hxj] at hgt
        have hg32 : givenN (v.take j) < 32 := given_lt (T := 5) (by rw [List.length_take]; omega)
        have h2j : 2 ^ j < 32 := Nat.lt_of_lt_of_le (Nat.pow_lt_pow_right (by omega) (show j < 5 by omega)) (by decide)
        have HOR := hid (i64_or_nat (givenN (v.take j)) (2 ^ j) hg32 h2j)
        have pw := (pow_wrap j (by omega)).1
        obtain ⟨gj, hgj⟩ : ∃ gj, givenN (v.take j) = gj := ⟨_, rfl⟩
        rw [hgj] at hgt HOR ⊢
        have HGT := hid hgt
        clear hjl hc2 hc3 hvl hkT hr hrow hx hxj hgt hg32 hgj
        by_cases h0 : 0 < x
        · have h0z : (0 : Int) < (x : Int) := by omega
          gi_wp2_with fail
          go_roundw
          case rel => exact ⟨j + 1, by omega, by go_num, by rw [HGT.out, if_pos h0, ← HOR.out, Int.natCast_pow]; rfl, trivial⟩
          case measure => simp [intOf]; omega
        · have h0z : ¬ (0 : Int) < (x : Int) := by omega
          gi_wp2_with fail
          go_roundw
          case rel => exact ⟨j + 1, by omega, by go_num, by rw [HGT.out, if_neg h0], trivial⟩
          case measure => simp [intOf]; omega
      · have e : j = T := by omega
        subst e
        rw [List.take_of_length_le (by rw [HVL.out, HT.out]; exact Nat.le_refl _)]
        have hgx32 : givenN v < 32 := given_lt (T := 5) (by have := HVL.out; have := HT.out; omega)
        obtain ⟨gx, hgx⟩ : ∃ gx, givenN v = gx := ⟨_, rfl⟩
        rw [hgx] at hgx32 ⊢
        obtain ⟨tb, htb⟩ : ∃ tb, (tlC fun s => A.count s) = tb := ⟨_, rfl⟩
        have hrg : W2.rangeAt w.heap.size 0 tb := by
          have h4 := HS4.out
          have h1 : TlAt W2 w.heap.size (fun s => A.count s) := hTA4.out.same ((HF2.out.same _ (by have := HJ.out.ak.sz; omega) (by omega)).trans (HSM.out i M W HJ.out _ (by omega) (by omega)))
          rw [← htb]; exact h1.range
        have hl32 : (Tryd.prog.info? 42).map (·.size) = some tb.length := by rw [← htb]; exact size42
        have HIX : Hid (∀ s : Nat, s < 32 → ∀ W, (Instr.index 42 (.agg tb.toArray) (.int .i64 (s : Int))).run Tryd.prog W = .ok (.int .i64 ((A.count s : Nat) : Int)) W) := hid fun s hs W => by rw [← htb]; exact index_tl _ s hs W
        have HRG := hid hrg; have HL32 := hid hl32; have HGX := hid hgx
        clear hrg hl32 htb hgx
        gi_wp2_with (first | (refine wpListIn_step fun KQ hK' => ?_; refine step_load_in rfl 42 (.tmp 3) rfl w.heap.size 0 (by rfl) tb _ HRG.out Tryd.underlying42 rfl HL32.out ?_; refine hK' _ _ ?_; clear hK') | fail)
        gi_loopw [12, 13, 36] (fun _ _ iv wq => ∃ s : Nat, s ≤ 32 ∧ iv = .int .i64 (s : Int) ∧ TlAt wq (w.heap.size + 2) (fun x => (afterN k n i A ++ joinedTo A s gx).count x) ∧ Fr (fun b => b = w.heap.size + 2 ∨ b = D + 1) W wq ∧ wq.heap[D + 1]? = some (.loop { r with state := .busy })) (fun _ _ iv _ => 32 - (intOf iv).toNat)
        case atStart => exact ⟨0, by omega, rfl, by rw [joinedTo_zero, List.append_nil]; exact HT2.out, HF2.out, HL2.out⟩
        case round =>
          obtain ⟨s, hs, rfl, htl, hfr, hlr⟩ := hrel
          by_cases hlt : s < 32
          · have hix := HIX.out s hlt
            obtain ⟨u, hu⟩ : ∃ u, s ||| gx = u := ⟨_, rfl⟩
            have hu32 : u < 32 := by rw [← hu]; exact or32 hlt hgx32
            have hor : bits .or .i64 (s : Int) (gx : Int) = (u : Int) := by rw [i64_or_nat s gx hlt hgx32, hu]
            obtain ⟨c, hc⟩ : ∃ c, (afterN k n i A ++ joinedTo A s gx).count u = c := ⟨_, rfl⟩
            obtain ⟨d, hd⟩ : ∃ d, A.count s = d := ⟨_, rfl⟩
            have hce : wr.cell? ⟨w.heap.size + 2, u, none⟩ = some (.int .i64 (c : Int)) := by rw [← hc]; exact htl.get hu32
            have hfz := htl.fz u
            obtain ⟨e, he⟩ : ∃ e, c + d = e := ⟨_, rfl⟩
            have hsum : IntKind.i64.wrap ((c : Int) + (d : Int)) = (e : Int) := by
              have hA1 := HAB.out
              have hi1 : i < (colsN n k).length := (List.getElem?_eq_some_iff.1 HV.out).1
              have hi2 : (colsN n k).length ≤ 2401 := cols_few (fun x hx => (HF.out.often x hx).1) (HF.out.small n (by simp)) HF.out.takers
              have h1 := afterN_len k n i A
              have h2 := joinedTo_len A s gx
              have h3 := count_le_len (afterN k n i A ++ joinedTo A s gx) u
              have h4 := count_le_len A s
              rw [hc, List.length_append] at h3
              rw [hd] at h4
              have h5 : i * A.length ≤ 2401 * A.length := Nat.mul_le_mul_right _ (by omega)
              rw [← he]
              exact (IntWalk.i64_in _ (by constructor <;> omega)).trans (by omega)
            rw [hd] at hix
            have hu32z : (u : Int) < 32 := by omega
            have HTL := hid htl; have HFR := hid hfr; have HLR := hid hlr; have HU := hid hu; have HC := hid hc; have HDD := hid hd; have HE := hid he
            clear htl hfr hlr hu hc hd he
            gi_wp2_with fail
            have hne : D + 1 ≠ w.heap.size + 2 := by have := HS4.out; omega
            go_roundw
            case rel =>
              refine ⟨s + 1, by omega, by go_num, (HTL.out.put u e).ext fun x _ => ?_, HFR.out.trans ((fr_set _ _ _ _).mono fun q hq => .inl hq), (set_far hne _).trans HLR.out⟩
              rw [List.count_append (l₂ := joinedTo A (s + 1) gx), joinedTo_count, HU.out, HDD.out, ← Nat.add_assoc, ← List.count_append]
              by_cases e1 : x = u
              · subst e1
                rw [if_pos rfl, if_pos rfl, HC.out, HE.out]
              · rw [if_neg e1, if_neg (fun h => e1 h.symm), Nat.add_zero]
            case measure => simp [intOf]; omega
          · have e : s = 32 := by omega
            subst e
            have HTL := hid htl; have HFR := hid hfr; have HLR := hid hlr
            clear htl hfr hlr
            gi_wp2_with fail
            have hlw : D + 1 < wr.heap.size := (Array.getElem?_eq_some_iff.1 HLR.out).1
            have h4 := HS4.out
            have hF9 : Fr (fun b => b = w.heap.size + 2 ∨ b = D + 1) W (wr.putObj (D + 1) (.loop { r with state := .ready, pending := none })) := HFR.out.trans ((fr_one _ _).mono fun q hq => .inr hq)
            refine ⟨HLR.out, fun b hb => hF9.same b (by have := HM.out b hb; have := HB1.out; omega) (by have := HJ.out.ak.mm b hb; omega), hF9.low.size, .inl ⟨rfl, HJ.out.ak.own hF9, ?_, ?_⟩⟩
            · have h1 : TlAt (wr.putObj (D + 1) (.loop { r with state := .ready, pending := none })) (w.heap.size + 2) _ := HTL.out.same (World.putObj_heap_other (by omega))
              refine h1.ext fun x _ => ?_
              show _ = (afterN k n (i + 1) A).count x
              rw [afterN_succ HV.out, joinedTo_all gx HA.out, HGX.out]
            · rw [World.putObj_heap_same hlw, loop_again hr1 hr2]
  · have h4 := HS4.out
    refine ⟨⟨fun b hb => hb.elim, by rw [HSS.out]; exact Nat.le_refl _, Fr.refl _ _⟩, ?_, HLP.out⟩
    exact ((hTw4.out.same (HBS.out.block _ (by omega))).ext fun s _ => by simp [afterN])
  · rintro e W ⟨hv, ⟨M, h⟩ | h⟩
    · rw [show wd 1 k ⟨[], [n], needN true k⟩ = colsN n k from wd_all [n] k true] at h
      have h4 := HS4.out
      have hsz := h.ak.sz
      have hdeq : W.heap[D]? = some (.deferred (some [])) := (h.ak.blk (b := D) (by rw [HSS.out]; omega) (by omega) (by omega)).trans HDF.out
      refine ⟨hv, hdeq, .inl ⟨h.lp, ?_⟩⟩
      obtain ⟨WZ, hWZ⟩ : ∃ WZ, W.putObj (D + 1) (.loop { r with state := .exhausted }) = WZ := ⟨_, rfl⟩
      have hFZ : Fr (fun b => b = D + 1) W WZ := by rw [← hWZ]; exact fr_one _ _
      have hTZ : TlAt WZ (w.heap.size + 2) (fun s => (afterN k n (colsN n k).length A).count s) := h.tl.same (by rw [← hWZ]; exact World.putObj_heap_other (by omega))
      have hRZ : TlAt WZ (w.heap.size + 1) (fun _ => 0) := hTB4.out.same ((hFZ.same _ (by omega) (by omega)).trans (HSM.out _ M W h _ (by omega) (by omega)))
      have hDZ : WZ.heap[D]? = some (.deferred (some [])) := (hFZ.same _ (by omega) (by omega)).trans hdeq
      have hBZ : Below w.heap.size w WZ := by
        have h1 : Below w.heap.size w w4 := HBW.out.trans (HB4.out.mono (by rw [HSD.out]; omega))
        have h2 : Below w.heap.size w4 Ws := (HD.out ▸ HBS.out).mono (by rw [HD.out]; omega)
        have h3 : Below w.heap.size Ws W := h.ak.fr.below (fun q hq => by omega) (by rw [HSS.out]; omega)
        exact h1.trans (h2.trans (h3.trans (hFZ.below (fun q hq => by omega) (by omega))))
      rw [hWZ]
      clear hWZ
      rw [afterN_all] at hTZ
      rw [hB] at hTZ
      have hrg := hTZ.range
      have hth := hRZ.there (fun s => B.count s)
      rename_i K1 hK1
      refine hK1 _ _ ?_
      clear hK1
      refine wp_seq ?_
      refine wp_region_lit ?_
      refine wpList_step fun KQ hK' => ?_
      refine step_load rfl 42 (.tmp 7) rfl (w.heap.size + 2) 0 (by rfl) (tlC fun s => B.count s) _ hrg Tryd.underlying42 rfl size42 ?_
      refine hK' _ _ ?_
      clear hK'
      refine wpList_step fun KQ hK' => ?_
      refine step_store_mid rfl 42 (.tmp 6) (.tmp 49) rfl (w.heap.size + 1) 0 (tlC fun s => B.count s).toArray (by rfl) (by rfl) hth (by rw [List.size_toArray]; exact size42) (all_oneCell_toArray (tlC_one _)) ?_
      refine hK' _ _ ?_
      clear hK'
      have hre := World.rangeAt_setCells_same WZ (w.heap.size + 1) 0 (tlC fun s => B.count s) (by simpa using hth)
      have hfz : Fr (fun b => b = w.heap.size + 1) WZ (WZ.setCells (w.heap.size + 1) 0 (tlC fun s => B.count s).toArray.toList) := fr_setCells _ _ _ _
      refine wpList_nil ?_
      refine wp_ret ?_
      have hDD : (WZ.setCells (w.heap.size + 1) 0 (tlC fun s => B.count s).toArray.toList).heap[D]? = some (.deferred (some [])) := (hfz.same _ (Array.getElem?_eq_some_iff.1 hDZ).1 (by omega)).trans hDZ
      have hBE : Below w.heap.size w (WZ.setCells (w.heap.size + 1) 0 (tlC fun s => B.count s).toArray.toList) := hBZ.trans (hfz.below (n := w.heap.size) (fun q hq => by omega) hBZ.size)
      rw [List.toList_toArray] at hDD hBE ⊢
      refine ⟨by simp, .inl ⟨_, _, rfl, run_takeDeferred hDD, ?_⟩⟩
      refine ⟨_, results_c1 rfl rfl (run_loadVar_mid _ (w.heap.size + 1) 0 42 (tlC fun s => B.count s) _ (fun j v hv => ?_) Tryd.underlying42 rfl size42), rfl, ?_⟩
      · rw [← hre j v hv]
        exact cell_same (World.putObj_heap_other (by show w.heap.size + 1 ≠ D; omega))
      · exact hBE.trans ((fr_one _ _).below (n := w.heap.size) (fun q hq => by omega) hBE.size)
    · cases h
end Go.Proofs.YtdpdpjfnanjmgaaDoor
