/- servedBy. -/
import Derived.Test.YtdpdpjfnanjmgaaDoorSpY
import Derived.Deep.CutBlock
namespace Go.Proofs.YtdpdpjfnanjmgaaDoor
open Go.RowKit Go.Shelf

attribute [local go_sem] Oper.semAt_some
theorem shl_val (x i : Nat) (hi : i ≤ 4) : ((x : Int) * (2 : Int) ^ min (IntKind.u64.wrap ((2 : Int) ^ i)).toNat 32 % (4294967296 : Int)) = (((x <<< 2 ^ i) % 2 ^ 32 : Nat) : Int) := by
  have h1 : 2 ^ i ≤ 2 ^ 4 := Nat.pow_le_pow_right (by omega) hi
  have h2 : IntKind.u64.wrap ((2 : Int) ^ i) = ((2 ^ i : Nat) : Int) := by
    rw [show ((2 : Int) ^ i) = ((2 ^ i : Nat) : Int) by simp]
    have := i
    rcases (show i = 0 ∨ i = 1 ∨ i = 2 ∨ i = 3 ∨ i = 4 by omega) with rfl | rfl | rfl | rfl | rfl <;> rfl
  rw [h2, Int.toNat_natCast, Nat.min_eq_left (by omega), Nat.shiftLeft_eq, Int.natCast_emod, Int.natCast_mul]
  simp
theorem results_c1 {fn : Func} {p : Tmp} {tp : TypeId} {P : Program} {tmps : Array Value} {w : World} {a : Addr} {x : Value} (h : fn.results = #[.cell p tp]) (hp : tmps.getD p undef = .pointer (some a))
    (la : (loadVar tp a).run P w = .ok x w) : (results fn tmps).run P w = .ok x w := by
  have hp' : tmps[p]?.getD undef = .pointer (some a) := by simpa using hp
  simp [results, h, hp', asAddr, la]
theorem size55 {f : Nat → Nat → Nat} : (Tryd.prog.info? 55).map (·.size) = some (tabC f).length := by
  rw [tabC_len]; kernel_rfl
theorem fr_cells {B : Nat} : ∀ (vs : List Value) (o : Nat) (W : World), Fr (fun b => b = B) W (W.setCells B o vs)
  | [], _, W => Fr.refl _ W
  | v :: vs, o, W => by
    rw [World.setCells]
    exact (fr_set W B o v).trans (fr_cells vs (o + 1) _)
theorem fr_setCells (W : World) (B : Nat) : ∀ (vs : List Value) (o : Nat), Fr (fun b => b = B) W (W.setCells B o vs) := fun vs o => fr_cells vs o W
theorem step_store_mid {P : Program} {ops : Array Oper} {o : Oper} {a : Act} {w : World} {K : Act → World → Prop} {Q : Exit → Act → World → Prop} {E : Prop} (hgd : o.guard = none) (ty : TypeId) (x y : Operand)
    (ho : o.op = .store ty x y) (b k : Nat) (cells : Array Value) (hx : a.eval x = .pointer (some ⟨b, k, none⟩)) (hy : a.eval y = .agg cells) (ht : w.there b k cells.size) (hi : (P.info? ty).map (·.size) = some cells.size) (h1 : cells.all (·.oneCell') = true)
    (h : K (a.put o.dst undef) (w.setCells b k cells.toList)) : if Region.wanted o (yielded ops a.tmps) = true then Oper.wp P o a w K Q else E := by
  have hw : Region.wanted o (yielded ops a.tmps) = true := by simp [Region.wanted, hgd]
  rw [if_pos hw]
  exact wp_store_mid ty x y ho b k cells hx hy ht hi h1 h
/-- How the walk over the takers stands. -/
structure SvK (k : List Nat) (Ws : World) (Tb lp : Nat) (r : Loop) (j : Nat) (W : World) : Prop where
  fr : Fr (fun b => b = Tb ∨ b = lp) Ws W
  tb : TbAt W Tb (lvl k j)
  lp : W.heap[lp]? = some (.loop r)
set_option maxRecDepth 100000 in
set_option maxHeartbeats 8000000 in
theorem served_any (pk : Option Addr) (ck : Nat) (k : List Nat) (w : World) (hT : k.length ≤ 5) (hk1 : ∀ x ∈ k, 1 ≤ x ∧ x ≤ 6) (hI : IntsAt w pk (up k)) :
    Calls Tryd.prog 27 #[.slice pk k.length ck] w fun e w' => e = .returned (.agg (tabC (lvl k k.length)).toArray) ∧ Below w.heap.size w w' := by
  obtain ⟨T, hTT⟩ : ∃ T, k.length = T := ⟨_, rfl⟩
  rw [hTT] at hT ⊢
  obtain ⟨WA, hWA⟩ : ∃ WA, w.alloc (.cells (tabC fun _ _ => 0).toArray 55) = WA := ⟨_, rfl⟩
  obtain ⟨WB, hWB⟩ : ∃ WB, WA.alloc (.cells (tabC fun _ _ => 0).toArray 55) = WB := ⟨_, rfl⟩
  have hz : (#[Value.int IntKind.u32 0, Value.int IntKind.u32 0, Value.int IntKind.u32 0, Value.int IntKind.u32 0, Value.int IntKind.u32 0, Value.int IntKind.u32 0, Value.int IntKind.u32 0, Value.int IntKind.u32 0, Value.int IntKind.u32 0, Value.int IntKind.u32 0, Value.int IntKind.u32 0, Value.int IntKind.u32 0, Value.int IntKind.u32 0, Value.int IntKind.u32 0, Value.int IntKind.u32 0, Value.int IntKind.u32 0, Value.int IntKind.u32 0, Value.int IntKind.u32 0, Value.int IntKind.u32 0, Value.int IntKind.u32 0, Value.int IntKind.u32 0, Value.int IntKind.u32 0, Value.int IntKind.u32 0, Value.int IntKind.u32 0, Value.int IntKind.u32 0, Value.int IntKind.u32 0, Value.int IntKind.u32 0, Value.int IntKind.u32 0, Value.int IntKind.u32 0, Value.int IntKind.u32 0, Value.int IntKind.u32 0, Value.int IntKind.u32 0, Value.int IntKind.u32 0, Value.int IntKind.u32 0, Value.int IntKind.u32 0, Value.int IntKind.u32 0, Value.int IntKind.u32 0, Value.int IntKind.u32 0, Value.int IntKind.u32 0, Value.int IntKind.u32 0, Value.int IntKind.u32 0, Value.int IntKind.u32 0] : Array Value) = (tabC fun _ _ => 0).toArray := by kernel_rfl
  have hbA : Below w.heap.size w WA := by rw [← hWA]; exact alloc_below0 _ _
  have hsA : WA.heap.size = w.heap.size + 1 := by rw [← hWA, World.size_alloc]
  have hbB : Below WA.heap.size WA WB := by rw [← hWB]; exact alloc_below0 _ _
  have hsB : WB.heap.size = w.heap.size + 2 := by rw [← hWB, World.size_alloc, hsA]
  have hRA : TbAt WA w.heap.size (fun _ _ => 0) := by rw [← hWA]; exact World.alloc_heap_new w _
  have hRB : TbAt WB w.heap.size (fun _ _ => 0) := (hbB.block _ (by omega)).trans hRA
  have hTB : TbAt WB (w.heap.size + 1) (fun _ _ => 0) := by rw [← hsA, ← hWB]; exact World.alloc_heap_new WA _
  have c0 : WB.cell? ⟨w.heap.size + 1, T * 7, none⟩ = some (.int .u32 0) := hTB.get (i := T) (n := 0) (by omega) (by omega)
  have f0 := hTB.fz (T * 7)
  have hbw : Below w.heap.size w WB := hbA.trans (hbB.mono hbA.size)
  have HRB := hid hRB; have HTB := hid hTB; have HBW := hid hbw; have HSB := hid hsB; have HI := hid hI; have HK1 := hid hk1; have HTT := hid hTT
  have hT6 : (T : Int) < 6 := by omega
  clear hbA hbB hRA hRB hTB hbw hI hk1 hTT
  refine (callsIn_wide (n := 10)).1 ?_
  refine callsIn_of_wp_marks Tryd.func27 rfl trivial (wpIn_wide.2 ?_) rfl
  simp only [Tryd.ntmps27, List.size_toArray, List.length_cons, List.length_nil, Nat.reduceAdd, Nat.reduceSub, Array.replicate_succ, Array.replicate_zero, List.push_toArray, List.append_toArray, List.nil_append, List.cons_append]
  go_upto_region 2 with (fail)
  clear hz hWA hWB
  go_upto_region 3 with (fail)
  obtain ⟨WC, hWC⟩ : ∃ WC, WB.setCell ⟨w.heap.size + 1, T * 7, none⟩ (.int .u32 1) = WC := ⟨_, rfl⟩
  rw [hWC]
  have hTC : TbAt WC (w.heap.size + 1) (updT (fun _ _ => 0) T 0 1) := by
    have h := HTB.out.put (i := T) (n := 0) (by omega) 1
    rw [Nat.add_zero] at h
    rw [← hWC]
    exact h
  have hFC : Fr (fun b => b = w.heap.size + 1) WB WC := by rw [← hWC]; exact fr_set _ _ _ _
  have hsC : WC.heap.size = WB.heap.size := by rw [← hWC]; simp [World.setCell]
  obtain ⟨WD, hWD⟩ : ∃ WD, WC.alloc (.cells #[.slice pk T ck] 23) = WD := ⟨_, rfl⟩
  have hbD : Below WC.heap.size WC WD := by rw [← hWD]; exact alloc_below0 _ _
  have hBn : Boxed WD WC.heap.size 23 (.slice pk T ck) := by rw [← hWD]; exact World.alloc_heap_new WC _
  have hsD : WD.heap.size = w.heap.size + 3 := by rw [← hWD, World.size_alloc, hsC, HSB.out]
  have hsC2 : WC.heap.size = w.heap.size + 2 := by rw [hsC, HSB.out]
  rw [hsC2] at hBn
  have hFD : Fr (fun b => b = w.heap.size + 1) WB WD := hFC.trans (Fr.of_below hbD)
  have hTD : TbAt WD (w.heap.size + 1) (updT (fun _ _ => 0) T 0 1) := (hbD.block _ (by omega)).trans hTC
  have hID : IntsAt WD pk (up k) := by
    have h1 := HI.out.below HBW.out
    refine ⟨h1.small, fun i hi => ?_⟩
    obtain ⟨b, o, e, hc⟩ := h1.cells i hi
    obtain ⟨b', o', e', hc'⟩ := HI.out.cells i hi
    rw [e] at e'
    cases e'
    refine ⟨b, o, e, hFD.cell hc ?_⟩
    have := World.block_lt_of_cell? w _ hc'
    show ¬ b = w.heap.size + 1
    have hb : b < w.heap.size := this
    omega
  have HBK := hid (backward_any pk T ck WC)
  have HBN := hid hBn; have HSD := hid hsD; have HTD := hid hTD; have HID := hid hID; have HFD := hid hFD
  clear hTC hFC hsC hbD hBn hsD hFD hTD hID c0 f0 hWC
  go_wp2_with fail
  refine HBK.out.mono ?_
  rintro e w1 ⟨rfl, rfl⟩
  rw [hWD, hsC2]
  clear hWD hsC2 HBK
  go_upto_block 0 with (fail)
  refine (wpIn_wide (n := 10)).1 ?_
  gi_wp2_with fail
  refine range_law rfl (by omega) (gf := 38) (lb := #[.pointer (some ⟨w.heap.size + 2, 0, none⟩)]) rfl trivial (enters_of Tryd.func38 (by kernel_rfl) rfl) ?_
  intro r hr1 hr2 hr3 hr4 hr5 hr6 hr7
  rw [HSD.out]
  obtain ⟨Ws, hWs⟩ : ∃ Ws, (WD.alloc (.deferred (some []))).alloc (.loop r) = Ws := ⟨_, rfl⟩
  have b1 := alloc_below0 WD (.deferred (some []))
  have b2 := alloc_below0 (WD.alloc (.deferred (some []))) (.loop r)
  have s1 : (WD.alloc (.deferred (some []))).heap.size = w.heap.size + 4 := by rw [World.size_alloc, HSD.out]
  have hbs : Below WD.heap.size WD Ws := by rw [← hWs]; exact b1.trans (b2.mono (by rw [World.size_alloc]; omega))
  have hdf : Ws.heap[w.heap.size + 3]? = some (.deferred (some [])) := by
    have h1 := World.alloc_heap_new WD (.deferred (some []))
    rw [HSD.out] at h1
    rw [← hWs]
    exact (b2.block _ (by omega)).trans h1
  have hlp : Ws.heap[w.heap.size + 3 + 1]? = some (.loop r) := by
    have h1 := World.alloc_heap_new (WD.alloc (.deferred (some []))) (.loop r)
    rw [s1] at h1
    rw [← hWs]
    exact h1
  have hss : Ws.heap.size = w.heap.size + 5 := by rw [← hWs, World.size_alloc, s1]
  have hts : TbAt Ws (w.heap.size + 1) (lvl k 0) := by
    have h1 : TbAt Ws (w.heap.size + 1) (updT (fun _ _ => 0) T 0 1) := (hbs.block _ (by rw [HSD.out]; omega)).trans HTD.out
    refine h1.ext fun i n hi hn => ?_
    unfold updT lvl tabN
    rw [HTT.out]
    by_cases e : i = T
    · subst e
      rw [if_pos (by omega : i - 0 ≤ i ∧ i ≤ i), Nat.sub_self, fT]
      by_cases e2 : n = 0
      · rw [if_pos ⟨rfl, e2⟩, if_pos e2]
      · rw [if_neg (fun h => e2 h.2), if_neg e2]
    · rw [if_neg (fun h => e h.1), if_neg (by omega)]
  have hks : IntsAt Ws pk (up k) := HID.out.below hbs
  have hbn : Boxed Ws (w.heap.size + 2) 23 (.slice pk T ck) := (hbs.block _ (by rw [HSD.out]; omega)).trans HBN.out
  have hpkne : ∀ g o, pk = some ⟨g, o, none⟩ → 0 < T → g < w.heap.size := fun g o e hpos => by
    obtain ⟨b', o', e', hc'⟩ := up_int HI.out (i := 0) (by rw [HTT.out]; exact hpos)
    rw [e] at e'
    cases e'
    exact World.block_lt_of_cell? w _ hc'
  have HDF := hid hdf; have HSS := hid hss; have HKS := hid hks; have HBNS := hid hbn; have HPK := hid hpkne; have HBS := hid hbs
  rw [hWs]
  refine (back_in 9 (by omega) (w.heap.size + 3 + 1) (w.heap.size + 2) pk T ck (by omega) (SvK k Ws (w.heap.size + 1) (w.heap.size + 3 + 1) r) (fun _ => False) ?_ ?_ Ws hbn ⟨Fr.refl _ _, hts, hlp⟩).mono ?_
  · rintro j W hj hK
    refine ⟨(hK.fr.same _ (by rw [HSS.out]; omega) (by omega)).trans HBNS.out, ?_⟩
    obtain ⟨b, o, e, hc⟩ := up_int HKS.out (i := T - 1 - j) (by rw [HTT.out]; omega)
    have hb := HPK.out b o e (by omega)
    exact ⟨b, o, _, e, hK.fr.cell hc (by show ¬ (b = _ ∨ b = _); omega)⟩
  · rintro j W x hj hK hx
    have hxc : x = ((k.getD (T - 1 - j) 0 : Nat) : Int) := by
      obtain ⟨b, o, e, hc⟩ := up_int HKS.out (i := T - 1 - j) (by rw [HTT.out]; omega)
      have hb := HPK.out b o e (by omega)
      have h1 := hK.fr.cell hc (by show ¬ (b = _ ∨ b = _); omega)
      have h2 := hx b o e
      rw [h1] at h2
      cases h2
      rfl
    subst hxc
    obtain ⟨c, hc⟩ : ∃ c, k.getD (T - 1 - j) 0 = c := ⟨_, rfl⟩
    have hc1 : 1 ≤ c := by rw [← hc]; exact get_pos (fun x hx => (HK1.out x hx).1) _ (by rw [HTT.out]; omega)
    have hc6 : c ≤ 6 := by
      rw [← hc, List.getD_eq_getElem?_getD, List.getElem?_eq_getElem (by rw [HTT.out]; omega)]
      exact (HK1.out _ (List.getElem_mem _)).2
    obtain ⟨i, hi⟩ : ∃ i, T - 1 - j = i := ⟨_, rfl⟩
    rw [hc]
    rw [hi] at hc ⊢
    refine yield_by hr5 hr6 hr3 hr4 hK.lp hr1 rfl hr7 ?_
    have HK := hid hK; have HC := hid hc; have HII := hid hi
    clear hK hx hc hr3 hr4 hr5 hr6 hts hlp hdf hss hks hbn hpkne hbs s1 b1 b2 hWs
    simp only [List.zip_toArray, List.zip_cons_cons, List.zip_nil_right, List.foldl_toArray, List.foldl_cons, List.foldl_nil, List.setIfInBounds_toArray, List.set_cons_succ, List.set_cons_zero]
    gi_wp2_with fail
    refine ⟨HK.out.lp, ?_⟩
    have hltl : w.heap.size + 3 + 1 < W.heap.size := (Array.getElem?_eq_some_iff.1 HK.out.lp).1
    have hF2 : Fr (fun b => b = w.heap.size + 1 ∨ b = w.heap.size + 3 + 1) Ws (W.putObj (w.heap.size + 3 + 1) (.loop { r with state := .busy })) := HK.out.fr.trans ((fr_one _ _).mono fun q hq => .inr hq)
    have hL2 := World.putObj_heap_same (w := W) (o := .loop { r with state := .busy }) hltl
    have hT2 : TbAt (W.putObj (w.heap.size + 3 + 1) (.loop { r with state := .busy })) (w.heap.size + 1) (mid k i 0) := by
      have h1 : TbAt (W.putObj (w.heap.size + 3 + 1) (.loop { r with state := .busy })) (w.heap.size + 1) (lvl k j) := Eq.trans (World.putObj_heap_other (by omega)) HK.out.tb
      refine h1.ext fun i' n' hi' hn' => ?_
      have h2 := HII.out
      unfold lvl mid
      rw [HTT.out]
      by_cases e : i' = i
      · rw [if_pos e, if_neg (by omega), if_neg (by omega)]
      · rw [if_neg e]
        by_cases e2 : i < i' ∧ i' ≤ T
        · rw [if_pos e2, if_pos (by omega)]
        · rw [if_neg e2, if_neg (by omega)]
    generalize W.putObj (w.heap.size + 3 + 1) (.loop { r with state := .busy }) = W2 at hF2 hL2 hT2 ⊢
    have HF2 := hid hF2; have HL2 := hid hL2; have HT2 := hid hT2
    have hiT : i < T := by have := HII.out; omega
    clear hF2 hL2 hT2 hltl HK
    gi_wp2_with fail
    gi_loopw [6, 7, 16] (fun _ _ nv wr => ∃ n : Nat, n ≤ 7 ∧ nv = .int .i64 (n : Int) ∧ TbAt wr (w.heap.size + 1) (mid k i n) ∧ Fr (fun b => b = w.heap.size + 1 ∨ b = w.heap.size + 3 + 1) Ws wr ∧ wr.heap[w.heap.size + 3 + 1]? = some (.loop { r with state := .busy })) (fun _ _ nv _ => 7 - (intOf nv).toNat)
    case atStart => exact ⟨0, by omega, rfl, HT2.out, HF2.out, HL2.out⟩
    case round =>
      obtain ⟨n, hn, rfl, htb, hfr, hlr⟩ := hrel
      by_cases hlt : n < 7
      · have HTB2 := hid htb; have HFR2 := hid hfr; have HLR2 := hid hlr
        have cg : wr.cell? ⟨w.heap.size + 1, (i + 1) * 7 + n, none⟩ = some (.int .u32 ((tabN k (i + 1) n : Nat) : Int)) := by
          have h1 := htb.get (i := i + 1) (n := n) (by omega) hlt
          unfold mid at h1
          rw [if_neg (by omega), HTT.out, if_pos (by omega)] at h1
          exact h1
        have cc := htb.get (i := i) (n := n) (by omega) hlt
        have ff := htb.fz (i * 7 + n)
        have hi6 : (i : Int) < 6 := by omega
        have hi61 : (i : Int) + 1 < 6 := by omega
        have hn7 : (n : Int) < 7 := by omega
        have w2' : IntKind.i64.wrap ((i : Int) + 1) = (i : Int) + 1 := IntWalk.i64_in _ (by constructor <;> omega)
        have w0' : (0 : Int) ≤ (i : Int) + 1 := by omega
        have tn : ((i : Int) + 1).toNat = i + 1 := by omega
        clear htb hfr hlr
        gi_wp2_with fail
        refine wpIn_still_tail 10 (by kernel_rfl) (by kernel_rfl) (by rintro ⟨_, _, h⟩; exact h) (by kernel_rfl) ?_
        simp only [List.take_succ_cons, List.take_zero, List.drop_succ_cons, List.drop_zero]
        iterate 10 still_step
        refine wpStill_nil ?_
        go_wp2_with fail
        obtain ⟨W4, hW4⟩ : ∃ W4, (wr.setCell ⟨w.heap.size + 1, i * 7 + n, none⟩ (.int .u32 ((tabN k (i + 1) n : Nat) : Int))).drew = W4 := ⟨_, rfl⟩
        rw [hW4]
        have hT4 : TbAt W4 (w.heap.size + 1) (updT (mid k i n) i n (accR (tabN k (i + 1)) c i n 0)) := by rw [← hW4]; exact HTB2.out.put hlt _
        have hF4 : Fr (fun b => b = w.heap.size + 1 ∨ b = w.heap.size + 3 + 1) Ws W4 := by rw [← hW4]; exact (HFR2.out.trans ((fr_set _ _ _ _).mono fun q hq => .inl hq)).drew
        have hL4 : W4.heap[w.heap.size + 3 + 1]? = some (.loop { r with state := .busy }) := by rw [← hW4]; exact (set_far (by omega) _).trans HLR2.out
        have HT4 := hid hT4; have HF4 := hid hF4; have HL4 := hid hL4
        clear hW4 hT4 hF4 hL4 cg cc ff
        have wsub : IntKind.i64.wrap ((n : Int) - (c : Int)) = (n : Int) - (c : Int) := IntWalk.i64_in _ (by constructor <;> omega)
        gi_wp2_with fail
        gi_loopw [7] (fun rv wr2 => ∃ rr : Nat, rr * c ≤ n ∧ rv = .int .i64 ((n : Int) - ((rr + 1) * c : Nat)) ∧ TbAt wr2 (w.heap.size + 1) (updT (mid k i n) i n (accR (tabN k (i + 1)) c i n rr)) ∧ Fr (fun b => b = w.heap.size + 1 ∨ b = w.heap.size + 3 + 1) Ws wr2 ∧ wr2.heap[w.heap.size + 3 + 1]? = some (.loop { r with state := .busy })) (fun rv _ => (intOf rv + 7).toNat)
        case atStart => exact ⟨0, by omega, by first | (rw [wsub]; simp) | simp, HT4.out, HF4.out, HL4.out⟩
        case round =>
          obtain ⟨rr, hrr, rfl, htb, hfr, hlr⟩ := hrel
          obtain ⟨z, hz⟩ : ∃ z, (rr + 1) * c = z := ⟨_, rfl⟩
          rw [hz]
          have HTB3 := hid htb; have HFR3 := hid hfr; have HLR3 := hid hlr; have HRR := hid hrr; have HZ := hid hz
          by_cases hle : z ≤ n
          · obtain ⟨m, hm⟩ : ∃ m, n - z = m := ⟨_, rfl⟩
            have hmz : (n : Int) - (z : Int) = (m : Int) := by omega
            rw [hmz]
            obtain ⟨ac, hac⟩ : ∃ ac, accR (tabN k (i + 1)) c i n rr = ac := ⟨_, rfl⟩
            obtain ⟨gx, hgx⟩ : ∃ gx, tabN k (i + 1) m = gx := ⟨_, rfl⟩
            have cg : wr.cell? ⟨w.heap.size + 1, (i + 1) * 7 + m, none⟩ = some (.int .u32 (gx : Int)) := by
              have h1 := htb.get (i := i + 1) (n := m) (by omega) (by omega)
              unfold updT mid at h1
              rw [if_neg (by omega), if_neg (by omega), HTT.out, if_pos (by omega), hgx] at h1
              exact h1
            have cc : wr.cell? ⟨w.heap.size + 1, i * 7 + n, none⟩ = some (.int .u32 (ac : Int)) := by
              have h1 := htb.get (i := i) (n := n) (by omega) hlt
              unfold updT at h1
              rw [if_pos ⟨rfl, rfl⟩, hac] at h1
              exact h1
            have ff := htb.fz (i * 7 + n)
            have hm7 : (m : Int) < 7 := by omega
            have HM := hid hm; have HAC := hid hac; have HGX := hid hgx
            clear htb hfr hlr hrr hz hm hmz hac hgx
            gi_wp2_with fail
            refine wpIn_still_tail 17 (by kernel_rfl) (by kernel_rfl) (by rintro ⟨_, _, h⟩; exact h) (by kernel_rfl) ?_
            simp only [List.take_succ_cons, List.take_zero, List.drop_succ_cons, List.drop_zero]
            iterate 17 still_step
            refine wpStill_nil ?_
            go_wp2_with fail
            obtain ⟨W5, hW5⟩ : ∃ W5, (wr.setCell ⟨w.heap.size + 1, i * 7 + n, none⟩ (.int .u32 (bits .or .u32 (ac : Int) ((gx : Int) * 2 ^ min (IntKind.u64.wrap (2 ^ i)).toNat 32 % 4294967296)))).drew = W5 := ⟨_, rfl⟩
            rw [hW5]
            have hac2 : ac < 2 ^ 32 := by
              rw [← HAC.out]
              exact accR_lt (fun m' _ => fT_lt (by rw [HTT.out]; exact hT) _ (Nat.sub_le _ _) m') _
            have hval : bits .or .u32 (ac : Int) ((gx : Int) * 2 ^ min (IntKind.u64.wrap (2 ^ i)).toNat 32 % 4294967296) = ((accR (tabN k (i + 1)) c i n (rr + 1) : Nat) : Int) := by
              rw [shl_val gx i (by omega), u32_or_nat _ _ (by omega) (Nat.mod_lt _ (by decide)), accR, HZ.out, if_pos hle, HAC.out, HM.out, HGX.out]
            have hT5 : TbAt W5 (w.heap.size + 1) (updT (mid k i n) i n (accR (tabN k (i + 1)) c i n (rr + 1))) := by
              have h1 := (HTB3.out.put (i := i) (n := n) hlt (accR (tabN k (i + 1)) c i n (rr + 1))).ext (g := updT (mid k i n) i n (accR (tabN k (i + 1)) c i n (rr + 1))) fun i' n' _ _ => by
                unfold updT
                split
                · rfl
                · rfl
              rw [← hW5, hval]
              exact h1
            have hF5 : Fr (fun b => b = w.heap.size + 1 ∨ b = w.heap.size + 3 + 1) Ws W5 := by rw [← hW5]; exact (HFR3.out.trans ((fr_set _ _ _ _).mono fun q hq => .inl hq)).drew
            have hL5 : W5.heap[w.heap.size + 3 + 1]? = some (.loop { r with state := .busy }) := by rw [← hW5]; exact (set_far (by omega) _).trans HLR3.out
            have HT5 := hid hT5; have HF5 := hid hF5; have HL5 := hid hL5
            clear hW5 hT5 hF5 hL5 cg cc ff hval
            have wsub2 : IntKind.i64.wrap ((m : Int) - (c : Int)) = (m : Int) - (c : Int) := IntWalk.i64_in _ (by constructor <;> omega)
            have hnext : (m : Int) - (c : Int) = (n : Int) - ((rr + 1 + 1) * c : Nat) := by
              have h1 : (rr + 1 + 1) * c = z + c := by rw [Nat.succ_mul (rr + 1), HZ.out]
              have h2 := HM.out
              rw [h1]; omega
            have HNX := hid hnext
            clear hnext
            gi_wp2_with fail
            go_roundw
            case rel => exact ⟨rr + 1, by rw [HZ.out]; exact hle, by first | (rw [wsub2, HNX.out]) | rw [HNX.out], HT5.out, HF5.out, HL5.out⟩
            case measure =>
              have h1 := HM.out
              first
                | (rw [wsub2]; simp [intOf]; omega)
                | (simp [intOf]; omega)
          · have hneg : ¬ (0 : Int) ≤ (n : Int) - (z : Int) := by omega
            have hfin : accR (tabN k (i + 1)) c i n rr = tabN k i n := by
              rw [tab_acc (by rw [HTT.out]; exact hiT), HC.out]
              have h1 := accR_stop (g := tabN k (i + 1)) (c := c) (i := i) (n := n) (r := rr) (by rw [HZ.out]; omega) (n - rr)
              have h2 : rr ≤ n := Nat.le_trans (Nat.le_mul_of_pos_right rr (by omega)) HRR.out
              rw [show rr + (n - rr) = n by omega] at h1
              exact h1.symm
            have hT6 : TbAt wr (w.heap.size + 1) (mid k i (n + 1)) := HTB3.out.ext fun i' n' _ _ => by
              unfold updT mid
              by_cases e : i' = i
              · subst e
                rw [if_pos rfl, if_pos rfl]
                by_cases e2 : n' = n
                · subst e2; rw [if_pos ⟨rfl, rfl⟩, if_pos (by omega), hfin]
                · rw [if_neg (fun h => e2 h.2)]
                  by_cases e3 : n' < n
                  · rw [if_pos e3, if_pos (by omega)]
                  · rw [if_neg e3, if_neg (by omega)]
              · rw [if_neg (fun h => e h.1), if_neg e, if_neg e]
            have HT6 := hid hT6
            clear hT6 htb hfr hlr hrr hz
            gi_wp2_with fail
            go_roundw
            case rel => exact ⟨n + 1, by omega, by go_num, HT6.out, HFR3.out, HLR3.out⟩
            case measure => simp [intOf]; omega
      · have e : n = 7 := by omega
        subst e
        have HTB4 := hid htb; have HFR4 := hid hfr; have HLR4 := hid hlr
        clear htb hfr hlr
        gi_wp2_with fail
        have hlw : w.heap.size + 3 + 1 < wr.heap.size := (Array.getElem?_eq_some_iff.1 HLR4.out).1
        refine ⟨HLR4.out, .inl ⟨rfl, ?_, ?_, ?_⟩⟩
        · exact HFR4.out.trans ((fr_one _ _).mono fun q hq => .inr hq)
        · have h1 : TbAt (wr.putObj (w.heap.size + 3 + 1) (.loop { r with state := .ready, pending := none })) (w.heap.size + 1) (mid k i 7) := Eq.trans (World.putObj_heap_other (by omega)) HTB4.out
          refine h1.ext fun i' n' hi' hn' => ?_
          have h2 := HII.out
          unfold lvl mid
          rw [HTT.out]
          by_cases e : i' = i
          · subst e
            rw [if_pos rfl, if_pos hn', if_pos (by omega)]
          · rw [if_neg e]
            by_cases e2 : i < i' ∧ i' ≤ T
            · rw [if_pos e2, if_pos (by omega)]
            · rw [if_neg e2, if_neg (by omega)]
        · rw [World.putObj_heap_same hlw, loop_again hr1 hr2]
  · rintro e W ⟨hv, h | h⟩
    · refine ⟨hv, (h.fr.same _ (by rw [HSS.out]; omega) (by omega)).trans HDF.out, .inl ⟨h.lp, ?_⟩⟩
      have hlw : w.heap.size + 3 + 1 < W.heap.size := (Array.getElem?_eq_some_iff.1 h.lp).1
      have hTZ : TbAt (W.putObj (w.heap.size + 3 + 1) (.loop { r with state := .exhausted })) (w.heap.size + 1) (lvl k T) := Eq.trans (World.putObj_heap_other (by omega)) h.tb
      have hRZ : TbAt (W.putObj (w.heap.size + 3 + 1) (.loop { r with state := .exhausted })) w.heap.size (fun _ _ => 0) := (World.putObj_heap_other (by omega)).trans ((h.fr.same _ (by rw [HSS.out]; omega) (by omega)).trans ((HBS.out.block _ (by rw [HSD.out]; omega)).trans ((HFD.out.same _ (by rw [HSB.out]; omega) (by omega)).trans HRB.out)))
      have hDZ : (W.putObj (w.heap.size + 3 + 1) (.loop { r with state := .exhausted })).heap[w.heap.size + 3]? = some (.deferred (some [])) := (World.putObj_heap_other (by omega)).trans ((h.fr.same _ (by rw [HSS.out]; omega) (by omega)).trans HDF.out)
      have hBZ : Below w.heap.size w (W.putObj (w.heap.size + 3 + 1) (.loop { r with state := .exhausted })) := by
        have h1 : Below w.heap.size w Ws := HBW.out.trans ((HFD.out.below (n := w.heap.size) (fun q hq => by omega) (by rw [HSB.out]; omega)).trans (HBS.out.mono (by rw [HSD.out]; omega)))
        exact h1.trans ((h.fr.trans ((fr_one (w.heap.size + 3 + 1) _).mono fun q hq => .inr hq)).below (n := w.heap.size) (fun q hq => by omega) (by rw [HSS.out]; omega))
      generalize W.putObj (w.heap.size + 3 + 1) (.loop { r with state := .exhausted }) = WZ at hTZ hRZ hDZ hBZ ⊢
      have hrg : WZ.rangeAt (w.heap.size + 1) 0 (tabC (lvl k T)) := fun j v hv => by
        rw [Nat.zero_add]
        exact cell_box hTZ (by rw [List.getElem?_toArray]; exact hv)
      have hth : WZ.there w.heap.size 0 (tabC (lvl k T)).toArray.size := fun j hj => by
        rw [List.size_toArray, tabC_len] at hj
        rw [Nat.zero_add]
        refine ⟨?_, hRZ.fz j⟩
        rw [cell_box hRZ (i := j) (by rw [List.getElem?_toArray]; exact tabC_at _ hj)]
        rfl
      rename_i K1 hK1
      refine hK1 _ _ ?_
      clear hK1
      refine wp_seq ?_
      refine wp_region_lit ?_
      refine wpList_step fun KQ hK' => ?_
      refine step_load rfl 55 (.tmp 3) rfl (w.heap.size + 1) 0 (by rfl) (tabC (lvl k T)) _ hrg Tryd.underlying55 rfl size55 ?_
      refine hK' _ _ ?_
      clear hK'
      refine wpList_step fun KQ hK' => ?_
      refine step_store_mid rfl 55 (.tmp 2) (.tmp 55) rfl w.heap.size 0 (tabC (lvl k T)).toArray (by rfl) (by rfl) hth (by rw [List.size_toArray]; exact size55) (all_oneCell_toArray (tabC_one _)) ?_
      refine hK' _ _ ?_
      clear hK'
      have hre := World.rangeAt_setCells_same WZ w.heap.size 0 (tabC (lvl k T)) (by simpa using hth)
      have hfz : Fr (fun b => b = w.heap.size) WZ (WZ.setCells w.heap.size 0 (tabC (lvl k T)).toArray.toList) := fr_setCells _ _ _ _
      refine wpList_nil ?_
      refine wp_ret ?_
      have hDD : (WZ.setCells w.heap.size 0 (tabC (lvl k T)).toArray.toList).heap[w.heap.size + 3]? = some (.deferred (some [])) := (hfz.same _ (Array.getElem?_eq_some_iff.1 hDZ).1 (by omega)).trans hDZ
      have hBE : Below w.heap.size w (WZ.setCells w.heap.size 0 (tabC (lvl k T)).toArray.toList) := hBZ.trans (hfz.below (n := w.heap.size) (fun q hq => by omega) hBZ.size)
      rw [List.toList_toArray] at hDD hBE ⊢
      refine ⟨by simp, .inl ⟨_, _, rfl, run_takeDeferred hDD, ?_⟩⟩
      refine ⟨_, results_c1 rfl rfl (run_loadVar_mid _ w.heap.size 0 55 (tabC (lvl k T)) _ (fun j v hv => ?_) Tryd.underlying55 rfl size55), rfl, ?_⟩
      · rw [← hre j v hv]
        exact cell_same (World.putObj_heap_other (by show w.heap.size ≠ w.heap.size + 3; omega))
      · exact hBE.trans ((fr_one _ _).below (n := w.heap.size) (fun q hq => by omega) hBE.size)
    · cases h
/-- Its table keeps the laws. -/
theorem lvl_sv {k : List Nat} (hT : k.length ≤ 5) (hk : ∀ x ∈ k, 1 ≤ x) : Sv k (lvl k k.length) := by
  have h := tab_sv hT hk
  have e : ∀ i n, i ≤ k.length → lvl k k.length i n = tabN k i n := fun i n hi => by
    unfold lvl; rw [if_pos (by omega)]
  refine ⟨fun i n hi hn => by rw [e i n hi]; exact h.lt i n hi hn, by rw [e _ _ (Nat.le_refl _)]; exact h.one, fun n hn h0 => by rw [e _ _ (Nat.le_refl _)]; exact h.none n hn h0, fun i n hi hn s hs => ?_, fun i n hi hn r hr hrn s hs => ?_⟩
  · rw [e i n (by omega)]; rw [e (i + 1) n (by omega)] at hs; exact h.pass i n hi hn s hs
  · rw [e i n (by omega)]; rw [e (i + 1) _ (by omega)] at hs; exact h.give i n hi hn r hr hrn s hs
end Go.Proofs.YtdpdpjfnanjmgaaDoor
