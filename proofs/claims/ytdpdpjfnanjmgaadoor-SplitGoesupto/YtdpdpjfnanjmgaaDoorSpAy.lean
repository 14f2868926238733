/- SplitGoes' two turns: the walk. -/
import Derived.Test.YtdpdpjfnanjmgaaDoorSpAx
namespace Go.Proofs.YtdpdpjfnanjmgaaDoor
open Go.RowKit Go.Shelf

attribute [local go_sem] Oper.semAt_some
set_option maxRecDepth 100000 in
set_option maxHeartbeats 16000000 in
theorem goes_turns (w W13 : World) (Y S9 S15 M K Tk : Nat) (B : Nat → Prop) (Keep : World → Prop) (L : List (List Nat)) (gf : Nat) (lb : Array Value) (po : Option Addr) (oc : Nat) (WS : List (List (List Nat))) (v19 : Value) (tm : Array Value) (hsl : GSlots Y S9 S15 v19 tm) (hRD : Ready w Y S9 S15 M B Keep K Tk L gf lb po oc WS W13)
    (hWS : (L.map (rowsN K Tk)).take (M + 1) = WS) (hM1 : 1 ≤ M) (hM5 : M ≤ 500) (hT5 : Tk ≤ 5) (hY : Y + 3 ≤ W13.heap.size) :
    Code.wpIn Fence.wide 14 Tryd.prog (rt (rt (rt (rt (rt (rt (rt (rt (rt (rt (rt (rt (rt (rt (rt (rt (rt (Tryd.f4.body.getD .skip)))))))))))))))))) (bodyPostM Fence.wide 14 Tryd.prog Tryd.f4 fun en w' => en = .returned (.bool true) ∧ Below w.heap.size w w') { tmps := tm, defers := [] } W13 := by
  have hmax : maxLen = 9223372036854775807 := rfl
  obtain ⟨u, rfl⟩ := gslots_lit hsl
  clear hsl
  conv in rt _ => whnf
  have b14 := alloc_below0 W13 (.cells #[.int .i64 0] 3)
  have n14 := World.alloc_heap_new W13 (.cells #[.int .i64 0] 3)
  have HB14 := hid b14; have HN14 := hid n14; have HRD := hid hRD; have HYW := hid hY
  have hwl : WS.length = min (M + 1) L.length := by rw [← hWS, List.length_take, List.length_map]
  have HWL := hid hwl
  have HWA : Hid (∀ k v, L[k]? = some v → k < M + 1 → WS[k]? = some (rowsN K Tk v)) := hid fun k v hk hm => by rw [← hWS, List.getElem?_take_of_lt hm, List.getElem?_map, hk]; rfl
  obtain ⟨N, hN⟩ : ∃ N, M + 1 = N := ⟨_, rfl⟩
  rw [hN] at hwl HWL HWA
  have HNM := hid hN
  have wN : IntKind.i64.wrap ((M : Int) + 1) = (N : Int) := (IntWalk.i64_in _ (by constructor <;> omega)).trans (by omega)
  have hN2 : 2 ≤ N := by omega
  have hN5 : N ≤ 501 := by omega
  clear b14 n14 hRD hWS hwl hN hY
  gi_wp2_with fail
  generalize W13.alloc (.cells #[.int .i64 0] 3) = W14 at *
  refine loop_fuel (fun f a0 wr => ∃ (t T : Nat) (ds : List Deferred) (tm : Array Value), a0 = { tmps := tm, defers := ds } ∧ GSlots Y S9 S15 (.pointer (some ⟨T, 0, none⟩)) tm ∧ f = 2 - t ∧ t ≤ 2 ∧ W13.heap.size ≤ T ∧ Below W13.heap.size W13 wr ∧ wr.heap[T]? = some (.cells #[.int .i64 (t : Int)] 3 (0, 0)) ∧ DSt W13.heap.size t ds T wr) 2 ?_ ?_
  · exact ⟨0, W13.heap.size, [], _, rfl, ⟨rfl, rfl, rfl, rfl, rfl, rfl⟩, rfl, by omega, Nat.le_refl _, HB14.out, HN14.out, .inl ⟨rfl, rfl⟩⟩
  · rintro f a0 wr ⟨t, T, ds, tm, rfl, hsl, rfl, ht2, hT, hB, hTb, hDS⟩
    obtain ⟨u, rfl⟩ := gslots_lit hsl
    clear hsl
    have hRD := HRD.out.below hB
    have q19 := cell_box hTb (i := 0) rfl
    have q4 := cell_box hRD.y2 (i := 0) rfl
    have f4 := box_free (i := 0) hRD.y2
    have HRDr := hid hRD; have HB := hid hB; have HTb := hid hTb; have HDS := hid hDS
    clear hRD hB hTb hDS HB14 HN14
    by_cases ht : t < 2
    · have htz : (t : Int) < 2 := by omega
      have q15 := cell_box HRDr.out.s15 (i := 0) rfl
      have bV := alloc_below0 wr (.cells #[.int .i64 0] 3)
      have nV := World.alloc_heap_new wr (.cells #[.int .i64 0] 3)
      have sV := World.size_alloc wr (.cells #[.int .i64 0] 3)
      have q15V := below_cell bV _ _ q15
      have HV := hid (And.intro bV (And.intro nV sV))
      clear bV nV sV q15 q4 f4
      gi_wp2_with fail
      generalize wr.alloc (.cells #[.int .i64 0] 3) = V at HV ⊢
      obtain ⟨bV, nV, sV⟩ := HV.out
      have hBw := HB.out.size
      have hTw : T < wr.heap.size := (Array.getElem?_eq_some_iff.1 HTb.out).1
      have hBV := HB.out.trans (bV.mono hBw)
      have hTV := blk_below bV HTb.out
      have hDV := HDS.out.below bV
      obtain ⟨Nn, hNn⟩ : ∃ Nn, wr.heap.size = Nn := ⟨_, rfl⟩
      rw [hNn] at bV nV sV hBw hTw ⊢
      have HNn := hid hNn
      clear q15V q19 HV hNn
      refine range_law rfl (by omega) (gf := gf) (lb := lb) rfl trivial HRD.out.seq.en ?_
      intro r hr1 hr2 hr3 hr4 hr5 hr6 hr7
      have bD := alloc_below0 V (.deferred (some []))
      have nD := World.alloc_heap_new V (.deferred (some []))
      have sD := World.size_alloc V (.deferred (some []))
      generalize V.alloc (.deferred (some [])) = VD at *
      have bL := alloc_below0 VD (.loop r)
      have nL := World.alloc_heap_new VD (.loop r)
      have sL := World.size_alloc VD (.loop r)
      generalize VD.alloc (.loop r) = W0 at *
      rw [sD] at bL nL sL
      have bW0 : Below V.heap.size V W0 := bD.trans (bL.mono (by omega))
      have nD0 : W0.heap[V.heap.size]? = some (.deferred (some [])) := (bL.block _ (by omega)).trans nD
      have hBW := hBV.trans (bW0.mono (by omega))
      have hTW := blk_below bW0 hTV
      have hNW := blk_below bW0 nV
      have hDW := hDV.below bW0
      obtain ⟨D, hD⟩ : ∃ D, V.heap.size = D := ⟨_, rfl⟩
      rw [hD] at sV nD0 nL sL bL ⊢
      clear bD nD sD bL bW0 hBV hTV hDV bV nV
      have hK0 : TK W13 T Nn D t ds ((0 : Nat) : Int) W0 := ⟨hBW, hTW, hNW, nD0, hDW, by omega, by omega, by omega, by omega⟩
      clear hBW hTW hNW nD0 hDW
      obtain ⟨Z, hZ⟩ : ∃ Z, N - t = Z := ⟨_, rfl⟩
      have wZ : IntKind.i64.wrap ((N : Int) - (t : Int)) = (Z : Int) := (IntWalk.i64_in _ (by constructor <;> omega)).trans (by omega)
      have hZ1 : 1 ≤ Z ∧ Z ≤ N ∧ (t = 0 → Z = N) := by omega
      have HZ := hid hZ1
      have HLw : Hid (WS.length = min N L.length) := HWL
      clear hZ1
      refine (HRD.out.seq.go 9 (D + 1) (fun k Mb W => TK W13 T Nn D t ds (k : Int) W ∧ W.heap[D + 1]? = some (.loop r) ∧ (∀ b, Mb b → D + 2 ≤ b) ∧ k < Z) (fun W => TK W13 T Nn D t ds (Z : Int) W ∧ W.heap[D + 1]? = some (.loop { r with state := .done, pending := some (.exit 6) }) ∧ Z ≤ L.length) W0 ?_ ?_ ?_ ⟨hK0, nL, fun b hb => hb.elim, by have := HZ.out; omega⟩).mono ?_
      · rintro k Mb M' W W' ⟨h1, h2, h3, h4⟩ hf hm
        refine ⟨h1.fr hf (fun b hb => by have := h3 b hb; omega), (hf.same _ h1.sz (fun hb => by have := h3 _ hb; omega)).trans h2, fun b hb => ?_, h4⟩
        rcases hm b hb with h | h
        · exact h3 b h
        · have := h1.sz; omega
      · rintro k Mb W ⟨h1, _, h3, _⟩
        refine ⟨(HRD.out.below h1.low).keep, fun b hb hm => ?_⟩
        have := HRD.out.xs b hb
        have := h3 b hm
        have := h1.o1; have := h1.o2; have := h1.o3
        omega
      · rintro mm k Mb W v g bs hv ⟨hK, hLp, hMD, hkZ⟩ hMb hbs1 hbs2 hway
        have key : ∀ R : Ending → World → Prop, (k + 1 < Z → ∀ W' : World, (∀ b, D + 2 ≤ b → b < bs → W'.heap[b]? = W.heap[b]?) → W.heap.size ≤ W'.heap.size → TK W13 T Nn D t ds ((k : Int) + 1) W' → W'.heap[D + 1]? = some (.loop r) → R (.returned (.bool true)) W') →
            (k + 1 = Z → ∀ W' : World, (∀ b, D + 2 ≤ b → b < bs → W'.heap[b]? = W.heap[b]?) → W.heap.size ≤ W'.heap.size → TK W13 T Nn D t ds ((k : Int) + 1) W' → W'.heap[D + 1]? = some (.loop { r with state := .done, pending := some (.exit 6) }) → R (.returned (.bool false)) W') → YieldAt Fence.wide mm Tryd.prog (D + 1) #[.slice (some ⟨g, 0, none⟩) Tk Tk] W R := by
          intro R hX hYes
          refine yield_by hr5 hr6 hr3 hr4 hLp hr1 rfl hr7 ?_
          have HK := hid hK; have HLP := hid hLp; have HX := hid hX; have HYY := hid hYes; have HWAY := hid hway
          have HB1 : Hid (bs ≤ W.heap.size ∧ D + 2 ≤ bs) := hid ⟨hbs1, by omega⟩
          have HRA := hid (And.intro hr1 (And.intro hr2 hr7))
          have HKL := hid (List.getElem?_eq_some_iff.1 hv).1
          have hkw : k < WS.length := by have := HLw.out; have := HZ.out; have := HKL.out; omega
          have hws : WS[k]? = some (rowsN K Tk v) := HWA.out k v hv (by have := HZ.out; omega)
          clear hX hYes hK hLp hbs1 hbs2 hr3 hr4 hr5 hr6 hK0 nL hr1 hr2 hr7 sV sL hD hv hMb hMD hway
          simp only [List.zip_toArray, List.zip_cons_cons, List.zip_nil_right, List.foldl_toArray, List.foldl_cons, List.foldl_nil, List.setIfInBounds_toArray, List.set_cons_succ, List.set_cons_zero]
          gi_wp2_with fail
          refine ⟨HLP.out, ?_⟩
          have hlt := HK.out.sz
          have hK2 := HK.out.fr (fr_one (W := W) (D + 1) (.loop { r with state := .busy })) (fun b e => by omega)
          have hL2 := World.putObj_heap_same (w := W) (o := .loop { r with state := .busy }) hlt
          have hsm2 : ∀ b, b ≠ D + 1 → (W.putObj (D + 1) (.loop { r with state := .busy })).heap[b]? = W.heap[b]? := fun b hb => World.putObj_heap_other hb
          have hs2 : (W.putObj (D + 1) (.loop { r with state := .busy })).heap.size = W.heap.size := by simp [World.putObj]
          generalize W.putObj (D + 1) (.loop { r with state := .busy }) = W2 at hK2 hL2 hsm2 hs2 ⊢
          have hRD2 := HRD.out.below hK2.low
          obtain ⟨base, hwz⟩ := hRD2.ws
          obtain ⟨gw, pw, cw, rfl, hcw, hrw⟩ := want_at hwz hkw
          obtain ⟨_, ewk⟩ := List.getElem?_eq_some_iff.1 hws
          rw [ewk] at hcw hrw
          rw [rowsN_len] at hcw
          have hway2 : WayAt W2 bs g K Tk (rowsN K Tk v) := HWAY.out.same fun b hb hb' => hsm2 b (by have := HB1.out; omega)
          have hsr := sameR_any (some ⟨g, 0, none⟩) Tk ((rowsN K Tk v).map up) pw cw ((rowsN K Tk v).map up) W2 (hway2.rows (rowsN_len _ _ _) hT5) hrw
          rw [decide_eq_true rfl, List.length_map, rowsN_len] at hsr
          have x20 := cell_box hK2.nb (i := 0) rfl
          have x19 := cell_box hK2.tb (i := 0) rfl
          have x9 := cell_box hRD2.s9 (i := 0) rfl
          have hkz : (k : Int) < (WS.length : Int) := by omega
          have hLs : WS.length ≤ maxLen := ways_small hwz
          have hge : ¬ (WS.length : Int) ≤ (k : Int) := by omega
          have HK2 := hid hK2; have HL2 := hid hL2; have HSM := hid hsm2; have HS2 := hid hs2; have HSR := hid hsr; have HWY2 := hid hway2
          clear hK2 hL2 hsm2 hs2 hRD2 hlt hwz hrw hsr hway2 ewk hws
          gi_wp2_with fail
          refine ⟨trivial, (by intro h; cases h), (CallsIn.inRound _ (callsIn_wide.2 HSR.out)).mono ?_⟩
          rintro en W3 ⟨rfl, hb3⟩
          have hway3 := HWY2.out.below hb3
          have HSP := hid (spoilX_any _ _ W3 (hway3.spoilX (rowsN_len _ _ _) (by omega)))
          have HB3 := hid hb3
          clear hb3 hway3 x20 x19 x9 hcw HSR HWY2
          gi_wp2_with fail
          refine ⟨trivial, (by intro h; cases h), (CallsIn.inRound _ (callsIn_wide.2 HSP.out)).mono ?_⟩
          rintro en W4 ⟨⟨u4, rfl⟩, hf4⟩
          have hb23 := HB3.out
          have hB1 := HB1.out
          have hS2 := HS2.out
          have hDs := HK2.out.sz
          have hfr4 : Fr (fun b => bs ≤ b) W2 W4 := (Fr.of_below hb23).trans (hf4.mono fun q hq => hq.1)
          have hK4 := HK2.out.fr hfr4 (fun b e => by omega)
          have hL4 : W4.heap[D + 1]? = some (.loop { r with state := .busy }) := (hfr4.same _ (by omega) (by omega)).trans HL2.out
          have hsm4 : ∀ b, D + 2 ≤ b → b < bs → W4.heap[b]? = W.heap[b]? := fun b h1 h2 => (hfr4.same _ (by omega) (by omega)).trans (HSM.out b (by omega))
          have hs4 : W.heap.size ≤ W4.heap.size := by have := hfr4.low.size; omega
          have hRD4 := HRD.out.below hK4.low
          have x20 := cell_box hK4.nb (i := 0) rfl
          have x19 := cell_box hK4.tb (i := 0) rfl
          have x9 := cell_box hRD4.s9 (i := 0) rfl
          have x3 := cell_box hRD4.y1 (i := 0) rfl
          have x15 := cell_box hRD4.s15 (i := 0) rfl
          have f20 := box_free (i := 0) hK4.nb
          have hkb : (k : Int) + 1 ≤ 501 := by have := HZ.out; omega
          have o1 := hK4.o1
          have o2 := hK4.o2
          have hyw := HYW.out
          have hn3 : ¬ Y + 1 = Nn := by omega
          have hn19 : ¬ T = Nn := by omega
          clear o1 o2 hyw
          have HK4 := hid hK4; have HL4 := hid hL4; have HSM4 := hid hsm4; have HS4 := hid hs4; have HR4 := hid hRD4
          clear hK4 hL4 hsm4 hs4 hRD4 hb23 hB1 hS2 hDs hfr4 hf4 HSP HB3 HK2 HL2 HSM HS2
          by_cases hin : t = 0 ∧ k = 0
          · have hq0 : ((k : Int) == 0) = true := by simp [hin.2]
            have hq1 : ((t : Int) == 0) = true := by simp [hin.1]
            have hZN : Z = N := HZ.out.2.2 hin.1
            have HMO : Hid (k + 1 < Z) := hid (by omega)
            have hgo : ((k : Int) + 1 == (Z : Int)) = false := by simp; omega
            have bV2 := alloc_below0 W4 (.cells #[.int .i64 0] 3)
            have nV2 := World.alloc_heap_new W4 (.cells #[.int .i64 0] 3)
            have sV2 := World.size_alloc W4 (.cells #[.int .i64 0] 3)
            have q15V := below_cell bV2 _ _ x15
            have HV2 := hid (And.intro bV2 (And.intro nV2 sV2))
            clear bV2 nV2 sV2 hin
            gi_wp2_with fail
            generalize W4.alloc (.cells #[.int .i64 0] 3) = V2 at HV2 ⊢
            obtain ⟨bV2, nV2, sV2⟩ := HV2.out
            obtain ⟨I0, hI0⟩ : ∃ I0, W4.heap.size = I0 := ⟨_, rfl⟩
            rw [hI0] at nV2 sV2 ⊢
            have hI1 : D + 2 ≤ bs ∧ bs ≤ I0 := by have := HS4.out; have := HB1.out; omega
            refine range_inner rfl (blk_below bV2 HL4.out) (fun h => by cases h) (gf := gf) (lb := lb) rfl trivial HRD.out.seq.en ?_
            intro r2 k1 k2 k3 k4 k5 k6 k7
            have bL3 := alloc_below0 V2 (.loop r2)
            have nL3 := World.alloc_heap_new V2 (.loop r2)
            have sL3 := World.size_alloc V2 (.loop r2)
            generalize V2.alloc (.loop r2) = V3 at *
            rw [sV2] at bL3 nL3 sL3 ⊢
            refine CallsIn.mono (CallsIn.inRound _ (callsIn_wide.2 (callsIn_wide.1 (HRD.out.seq.go 0 (I0 + 1) (fun i M' W' => Below W4.heap.size W4 W' ∧ W'.heap[I0]? = some (.cells #[.int .i64 (i : Int)] 3 (0, 0)) ∧ W'.heap[I0 + 1]? = some (.loop r2) ∧ (∀ b, M' b → I0 + 2 ≤ b) ∧ i < N) (fun W' => Below W4.heap.size W4 W' ∧ W'.heap[I0]? = some (.cells #[.int .i64 (N : Int)] 3 (0, 0)) ∧ W'.heap[I0 + 1]? = some (.loop { r2 with state := .done, pending := some (.exit 8) }) ∧ N ≤ L.length) V3 ?_ ?_ ?_ ⟨bV2.trans (bL3.mono (by omega)), (bL3.block _ (by omega)).trans nV2, nL3, fun b hb => hb.elim, by omega⟩)))) ?_
            · rintro i Ma Mc Wa Wb ⟨j1, j2, j3, j4, j5⟩ hf hm
              have hl1 := (Array.getElem?_eq_some_iff.1 j3).1
              refine ⟨j1.trans (hf.below (n := W4.heap.size) (fun b hb => by have := j4 b hb; omega) (by omega)), (hf.same _ (by omega) (fun hb => by have := j4 _ hb; omega)).trans j2, (hf.same _ hl1 (fun hb => by have := j4 _ hb; omega)).trans j3, fun b hb => ?_, j5⟩
              rcases hm b hb with h | h
              · exact j4 b h
              · omega
            · rintro i Ma Wa ⟨j1, _, _, j4, _⟩
              refine ⟨(HRD.out.below (HK4.out.low.trans (j1.mono HK4.out.low.size))).keep, fun b hb hm => ?_⟩
              have := HRD.out.xs b hb
              have := j4 b hm
              have := HK4.out.low.size
              omega
            · rintro m2 i Ma Wa v2 g2 bs2 hv2 ⟨j1, j2, j3, j4, j5⟩ hMa hc1 hc2 hway2
              have key2 : ∀ R : Ending → World → Prop, (i + 1 < N → ∀ Z0 : World, (∀ b, I0 + 2 ≤ b → Z0.heap[b]? = Wa.heap[b]?) → Wa.heap.size ≤ Z0.heap.size → (Below W4.heap.size W4 Z0 ∧ Z0.heap[I0]? = some (.cells #[.int .i64 ((i : Int) + 1)] 3 (0, 0)) ∧ Z0.heap[I0 + 1]? = some (.loop r2)) → R (.returned (.bool true)) Z0) →
                  (i + 1 = N → ∀ Z0 : World, (∀ b, I0 + 2 ≤ b → Z0.heap[b]? = Wa.heap[b]?) → Wa.heap.size ≤ Z0.heap.size → (Below W4.heap.size W4 Z0 ∧ Z0.heap[I0]? = some (.cells #[.int .i64 ((i : Int) + 1)] 3 (0, 0)) ∧ Z0.heap[I0 + 1]? = some (.loop { r2 with state := .done, pending := some (.exit 8) })) → R (.returned (.bool false)) Z0) → YieldAt Fence.wide m2 Tryd.prog (I0 + 1) #[.slice (some ⟨g2, 0, none⟩) Tk Tk] Wa R := by
                intro R hX hY2
                refine yield_by k5 k6 k3 k4 j3 k1 rfl k7 ?_
                have HX2 := hid hX; have HY2 := hid hY2; have HJ := hid (And.intro j1 (And.intro j2 j3)); have HRB := hid (And.intro k1 k2)
                have HI := hid hI0
                have hib : (i : Int) + 1 ≤ 501 := by omega
                have y3 := below_cell j1 _ _ x3
                have hi3 : ¬ Y + 1 = I0 := by have := HYW.out; have := HK4.out.low.size; omega
                have hsz : I0 + 1 < Wa.heap.size := (Array.getElem?_eq_some_iff.1 j3).1
                have e1 := fr_one (W := Wa) (I0 + 1) (.loop { r2 with state := .busy })
                have e2 : (Wa.putObj (I0 + 1) (.loop { r2 with state := .busy })).heap[I0]? = _ := (World.putObj_heap_other (by omega)).trans j2
                have e3 := World.putObj_heap_same (w := Wa) (o := .loop { r2 with state := .busy }) hsz
                have e4 : ∀ b, b ≠ I0 + 1 → (Wa.putObj (I0 + 1) (.loop { r2 with state := .busy })).heap[b]? = Wa.heap[b]? := fun b hb => World.putObj_heap_other hb
                have HE := hid (And.intro e1 (And.intro e2 (And.intro e3 e4)))
                have hL4 := HL4.out
                have HY4 : Hid (Y + 1 < W4.heap.size) := hid (by have := HYW.out; have := HK4.out.low.size; omega)
                clear hX hY2 j1 j2 j3 j4 k1 k2 k3 k4 k5 k6 k7 hMa hc1 hc2 hway2 hv2 bL3 nL3 sL3 bV2 nV2 sV2 HV2 e1 e2 e3 e4 hL4
                simp only [List.zip_toArray, List.zip_cons_cons, List.zip_nil_right, List.foldl_toArray, List.foldl_cons, List.foldl_nil, List.setIfInBounds_toArray, List.set_cons_succ, List.set_cons_zero]
                gi_wp2_with fail
                refine ⟨HJ.out.2.2, ?_⟩
                obtain ⟨e1, e2, e3, e4⟩ := HE.out
                generalize Wa.putObj (I0 + 1) (.loop { r2 with state := .busy }) = Z1 at e1 e2 e3 e4 ⊢
                have y23 := cell_box e2 (i := 0) rfl
                have g23 := box_free (i := 0) e2
                have y3' : Z1.cell? ⟨Y + 1, 0, none⟩ = some (.int .i64 (M : Int)) := (cell_same (e4 (Y + 1) (by have := HY4.out; have := HI.out; omega))).trans y3
                have ENDS : ∀ o : Obj, (Z1.setCell ⟨I0, 0, none⟩ (.int .i64 ((i : Int) + 1))).heap[I0 + 1]? = some (.loop { r2 with state := .busy }) ∧ (∀ b, I0 + 2 ≤ b → ((Z1.setCell ⟨I0, 0, none⟩ (.int .i64 ((i : Int) + 1))).putObj (I0 + 1) o).heap[b]? = Wa.heap[b]?) ∧ Wa.heap.size ≤ ((Z1.setCell ⟨I0, 0, none⟩ (.int .i64 ((i : Int) + 1))).putObj (I0 + 1) o).heap.size ∧ Below W4.heap.size W4 ((Z1.setCell ⟨I0, 0, none⟩ (.int .i64 ((i : Int) + 1))).putObj (I0 + 1) o) ∧ ((Z1.setCell ⟨I0, 0, none⟩ (.int .i64 ((i : Int) + 1))).putObj (I0 + 1) o).heap[I0]? = some (.cells #[.int .i64 ((i : Int) + 1)] 3 (0, 0)) ∧ ((Z1.setCell ⟨I0, 0, none⟩ (.int .i64 ((i : Int) + 1))).putObj (I0 + 1) o).heap[I0 + 1]? = some o := by
                  intro o
                  have hI0 := HI.out
                  have e5 := fr_set Z1 I0 0 (.int .i64 ((i : Int) + 1))
                  have e6 := box_set (v := .int .i64 ((i : Int) + 1)) e2
                  have e7 : ∀ b, b ≠ I0 → (Z1.setCell ⟨I0, 0, none⟩ (.int .i64 ((i : Int) + 1))).heap[b]? = Z1.heap[b]? := fun b hb => set_far hb _
                  generalize Z1.setCell ⟨I0, 0, none⟩ (.int .i64 ((i : Int) + 1)) = Z2 at e5 e6 e7 ⊢
                  have e8 : Z2.heap[I0 + 1]? = some (.loop { r2 with state := .busy }) := (e7 _ (by omega)).trans e3
                  have e9 := (Array.getElem?_eq_some_iff.1 e8).1
                  have s1 := e1.low.size; have s5 := e5.low.size; have s6 := (fr_one (W := Z2) (I0 + 1) o).low.size
                  exact ⟨e8, fun b hb => (World.putObj_heap_other (by omega)).trans ((e7 _ (by omega)).trans (e4 _ (by omega))), by omega, HJ.out.1.trans ((e1.below (n := W4.heap.size) (fun b e => by omega) (by omega)).trans ((e5.below (n := W4.heap.size) (fun b e => by omega) (by omega)).trans ((fr_one (I0 + 1) _).below (n := W4.heap.size) (fun b e => by omega) (by omega)))), (World.putObj_heap_other (by omega)).trans e6, World.putObj_heap_same e9⟩
                have HENDS := hid ENDS
                clear e1 e2 e3 e4 ENDS y3
                have GO : Hid (((i : Int) + 1 == (N : Int)) = decide (i + 1 = N)) := hid (by rw [Bool.eq_iff_iff]; simp; omega)
                have hgi := GO.out
                by_cases hmo : i + 1 = N
                · rw [decide_eq_true hmo] at hgi
                  have HMI := hid hmo
                  clear hmo
                  gi_wp2_with fail
                  obtain ⟨z1, z2, z3, z4, z5, z6⟩ := HENDS.out (.loop { r2 with state := .done, pending := some (.exit 8) })
                  exact ⟨z1, HY2.out HMI.out _ z2 z3 ⟨z4, z5, z6⟩⟩
                · rw [decide_eq_false hmo] at hgi
                  have HMI := hid hmo
                  clear hmo
                  gi_wp2_with fail
                  obtain ⟨z1, z2, z3, z4, z5, z6⟩ := HENDS.out (.loop { r2 with state := .ready, pending := none })
                  refine ⟨z1, HX2.out (by have := HMI.out; omega) _ z2 z3 ⟨z4, z5, ?_⟩⟩
                  rw [loop_again HRB.out.1 HRB.out.2] at z6 ⊢
                  exact z6
              have hil : i < L.length := (List.getElem?_eq_some_iff.1 hv2).1
              refine key2 _ (fun hz Z0 z1 z2 ⟨z3, z4, z5⟩ => ⟨fun b hb => z1 b (j4 b hb), z2, .inl ⟨rfl, z3, ?_, z5, j4, hz⟩⟩) (fun hz Z0 z1 z2 ⟨z3, z4, z5⟩ => ⟨fun b hb => z1 b (j4 b hb), z2, .inr ⟨rfl, z3, ?_, z5, by omega⟩⟩)
              · rw [show (((i + 1 : Nat)) : Int) = (i : Int) + 1 by omega]
                exact z4
              · rw [← hz, show (((i + 1 : Nat)) : Int) = (i : Int) + 1 by omega]
                exact z4
            · rintro e2 Wa ⟨⟨v2, rfl⟩, (⟨Ma, j1, j2, j3, j4, j5⟩ | ⟨j1, j2, j3, j4⟩)⟩
              · refine ⟨⟨v2, rfl⟩, .inl ⟨j3, ?_⟩⟩
                rw [show (L.length : Int) = (WS.length : Int) by have := HLw.out; omega] at j2
                have B5 := j1.trans ((fr_one (W := Wa) (I0 + 1) (.loop { r2 with state := .exhausted })).below (n := W4.heap.size) (fun b e => by omega) (by have := j1.size; omega))
                have n5 : (Wa.putObj (I0 + 1) (.loop { r2 with state := .exhausted })).heap[I0]? = _ := (World.putObj_heap_other (by omega)).trans j2
                generalize Wa.putObj (I0 + 1) (.loop { r2 with state := .exhausted }) = W5 at B5 n5 ⊢
                clear j1 j2 j3 j4 j5
                have n5' : W5.heap[I0]? = some (.cells #[.int .i64 (WS.length : Int)] 3 (0, 0)) := n5
                have HK5 := hid (HK4.out.fr (A := fun _ => False) (Fr.of_below B5) (fun b hb => hb.elim))
                have HL5 := hid (blk_below B5 HL4.out)
                have HSM5 : Hid (∀ b, D + 2 ≤ b → b < bs → W5.heap[b]? = W.heap[b]?) := hid fun b h1 h2 => (B5.block b (by omega)).trans (HSM4.out b h1 h2)
                have HS5 : Hid (W.heap.size ≤ W5.heap.size) := hid (Nat.le_trans HS4.out B5.size)
                have z23 := cell_box n5' (i := 0) rfl
                have z20 := below_cell B5 _ _ x20
                have z19 := below_cell B5 _ _ x19
                have z9 := below_cell B5 _ _ x9
                have z3 := below_cell B5 _ _ x3
                have h20 := box_free (i := 0) HK5.out.nb
                have hnn : ((WS.length : Int) != (WS.length : Int)) = false := by simp
                clear n5 n5' B5 k1 k2 k3 k4 k5 k6 k7 bL3 nL3 sL3 bV2 nV2 sV2 hI0 hI1 HV2 x20 x19 x15 x9 x3 f20 q15V
                gi_wp2_with fail
                obtain ⟨g1, g2, g3, g4, g5⟩ := HK5.out.ends (W := W) HL5.out HSM5.out HS5.out ((k : Int) + 1) _ rfl (.loop { r with state := .ready, pending := none })
                refine ⟨g1, HX.out (by have := HMO.out; omega) _ g2 g3 g4 ?_⟩
                rw [loop_again HRA.out.1 HRA.out.2.1] at g5 ⊢
                exact g5
              · refine ⟨⟨v2, rfl⟩, .inr ⟨_, j3, ?_⟩⟩
                rw [show (N : Int) = (WS.length : Int) by have := HLw.out; omega] at j2
                have B5 := j1.trans ((fr_one (W := Wa) (I0 + 1) (.loop { r2 with state := .exhausted, pending := some (.exit 8) })).below (n := W4.heap.size) (fun b e => by omega) (by have := j1.size; omega))
                have n5 : (Wa.putObj (I0 + 1) (.loop { r2 with state := .exhausted, pending := some (.exit 8) })).heap[I0]? = _ := (World.putObj_heap_other (by omega)).trans j2
                generalize Wa.putObj (I0 + 1) (.loop { r2 with state := .exhausted, pending := some (.exit 8) }) = W5 at B5 n5 ⊢
                clear j1 j2 j3 j4
                have n5' : W5.heap[I0]? = some (.cells #[.int .i64 (WS.length : Int)] 3 (0, 0)) := n5
                have HK5 := hid (HK4.out.fr (A := fun _ => False) (Fr.of_below B5) (fun b hb => hb.elim))
                have HL5 := hid (blk_below B5 HL4.out)
                have HSM5 : Hid (∀ b, D + 2 ≤ b → b < bs → W5.heap[b]? = W.heap[b]?) := hid fun b h1 h2 => (B5.block b (by omega)).trans (HSM4.out b h1 h2)
                have HS5 : Hid (W.heap.size ≤ W5.heap.size) := hid (Nat.le_trans HS4.out B5.size)
                have z23 := cell_box n5' (i := 0) rfl
                have z20 := below_cell B5 _ _ x20
                have z19 := below_cell B5 _ _ x19
                have z9 := below_cell B5 _ _ x9
                have z3 := below_cell B5 _ _ x3
                have h20 := box_free (i := 0) HK5.out.nb
                have hnn : ((WS.length : Int) != (WS.length : Int)) = false := by simp
                clear n5 n5' B5 k1 k2 k3 k4 k5 k6 k7 bL3 nL3 sL3 bV2 nV2 sV2 hI0 hI1 HV2 x20 x19 x15 x9 x3 f20 q15V
                gi_wp2_with fail
                obtain ⟨g1, g2, g3, g4, g5⟩ := HK5.out.ends (W := W) HL5.out HSM5.out HS5.out ((k : Int) + 1) _ rfl (.loop { r with state := .ready, pending := none })
                refine ⟨g1, HX.out (by have := HMO.out; omega) _ g2 g3 g4 ?_⟩
                rw [loop_again HRA.out.1 HRA.out.2.1] at g5 ⊢
                exact g5
          · have hqq : ¬ ((k : Int) == 0) = true ∨ ((k : Int) == 0) = true ∧ ((t : Int) == 0) = false := by
              by_cases hk0 : k = 0
              · exact .inr ⟨by simp [hk0], by simp; intro h; exact hin ⟨h, hk0⟩⟩
              · exact .inl (by simpa using hk0)
            have GO : Hid (((k : Int) + 1 == (Z : Int)) = decide (k + 1 = Z)) := hid (by rw [Bool.eq_iff_iff]; simp; omega)
            have hgo := GO.out
            rcases hqq with hq0 | ⟨hq0, hq1⟩
            · have hq0 : ((k : Int) == 0) = false := by simpa using hq0
              by_cases hmo : k + 1 = Z
              · rw [decide_eq_true hmo] at hgo
                have HMO := hid hmo
                clear hmo hin
                gi_wp2_with fail
                obtain ⟨g1, g2, g3, g4, g5⟩ := HK4.out.ends (W := W) HL4.out HSM4.out HS4.out ((k : Int) + 1) _ rfl (.loop { r with state := .done, pending := some (.exit 6) })
                exact ⟨g1, HYY.out HMO.out _ g2 g3 g4 g5⟩
              · rw [decide_eq_false hmo] at hgo
                have HMO := hid hmo
                clear hmo hin
                gi_wp2_with fail
                obtain ⟨g1, g2, g3, g4, g5⟩ := HK4.out.ends (W := W) HL4.out HSM4.out HS4.out ((k : Int) + 1) _ rfl (.loop { r with state := .ready, pending := none })
                refine ⟨g1, HX.out (by have := HMO.out; omega) _ g2 g3 g4 ?_⟩
                rw [loop_again HRA.out.1 HRA.out.2.1] at g5 ⊢
                exact g5
            · by_cases hmo : k + 1 = Z
              · rw [decide_eq_true hmo] at hgo
                have HMO := hid hmo
                clear hmo hin
                gi_wp2_with fail
                obtain ⟨g1, g2, g3, g4, g5⟩ := HK4.out.ends (W := W) HL4.out HSM4.out HS4.out ((k : Int) + 1) _ rfl (.loop { r with state := .done, pending := some (.exit 6) })
                exact ⟨g1, HYY.out HMO.out _ g2 g3 g4 g5⟩
              · rw [decide_eq_false hmo] at hgo
                have HMO := hid hmo
                clear hmo hin
                gi_wp2_with fail
                obtain ⟨g1, g2, g3, g4, g5⟩ := HK4.out.ends (W := W) HL4.out HSM4.out HS4.out ((k : Int) + 1) _ rfl (.loop { r with state := .ready, pending := none })
                refine ⟨g1, HX.out (by have := HMO.out; omega) _ g2 g3 g4 ?_⟩
                rw [loop_again HRA.out.1 HRA.out.2.1] at g5 ⊢
                exact g5
        refine key _ (fun hz W' h1 h2 h3 h4 => ⟨fun b hb => h1 b (hMD b hb) (hMb b hb), h2, .inl ⟨rfl, ?_, h4, hMD, hz⟩⟩) (fun hz W' h1 h2 h3 h4 => ⟨fun b hb => h1 b (hMD b hb) (hMb b hb), h2, .inr ⟨rfl, ?_, h4, ?_⟩⟩)
        · rw [show (((k + 1 : Nat)) : Int) = (k : Int) + 1 by omega]
          exact h3
        · rw [← hz, show (((k + 1 : Nat)) : Int) = (k : Int) + 1 by omega]
          exact h3
        · have := (List.getElem?_eq_some_iff.1 hv).1
          omega
      · rintro e W ⟨⟨v, rfl⟩, (⟨Mb, hK, hLp, _, hkZ⟩ | ⟨hK, hLp, hZL⟩)⟩
        · refine ⟨⟨v, rfl⟩, hK.db, .inl ⟨hLp, ?_⟩⟩
          have hK3 := hK.fr (fr_one (W := W) (D + 1) (.loop { r with state := .exhausted })) (fun b e => by omega)
          generalize W.putObj (D + 1) (.loop { r with state := .exhausted }) = W3 at hK3 ⊢
          have hRD3 := HRD.out.below hK3.low
          have hwl : WS.length = L.length := by have := HLw.out; have := HZ.out; omega
          have x20 := cell_box hK3.nb (i := 0) rfl
          have x19 := cell_box hK3.tb (i := 0) rfl
          have x9 := cell_box hRD3.s9 (i := 0) rfl
          have x3 := cell_box hRD3.y1 (i := 0) rfl
          rw [← hwl] at x20
          have hmn : ¬ (Z : Int) < (WS.length : Int) := by omega
          have hml : (WS.length : Int) ≤ (Z : Int) := by omega
          have hmi : min (WS.length : Int) (Z : Int) = (WS.length : Int) := by omega
          have hnn : ((WS.length : Int) != (WS.length : Int)) = false := by simp
          have hLs : WS.length ≤ maxLen := by obtain ⟨_, h⟩ := hRD3.ws; exact ways_small h
          have HK3 := hid hK3; have HR3 := hid hRD3
          clear hK hLp hK0 nL hK3 hRD3 hr1 hr2 hr3 hr4 hr5 hr6 hr7 hwl hkZ
          have HSV := hid sV
          clear sV sL hD hZ
          gi_wp2_with fail
          obtain ⟨g1, g2, g3⟩ := HK3.out.turn ht _ rfl
          exact ⟨2 - (t + 1), by omega, t + 1, W3.heap.size, _, _, ⟨rfl, rfl⟩, ⟨rfl, rfl, rfl, rfl, rfl, rfl⟩, rfl, by omega, (by have := HK3.out.o1; have := HK3.out.o2; have := HK3.out.o3; have := HK3.out.sz; omega), g1, g2, g3⟩
        · refine ⟨⟨v, rfl⟩, hK.db, .inr ⟨_, hLp, ?_⟩⟩
          have hK3 := hK.fr (fr_one (W := W) (D + 1) (.loop { r with state := .exhausted, pending := some (.exit 6) })) (fun b e => by omega)
          generalize W.putObj (D + 1) (.loop { r with state := .exhausted, pending := some (.exit 6) }) = W3 at hK3 ⊢
          have hRD3 := HRD.out.below hK3.low
          have x20 := cell_box hK3.nb (i := 0) rfl
          have x19 := cell_box hK3.tb (i := 0) rfl
          have x9 := cell_box hRD3.s9 (i := 0) rfl
          have x3 := cell_box hRD3.y1 (i := 0) rfl
          have hzl : Z ≤ WS.length := by have := HLw.out; have := HZ.out; omega
          have hmi : min (WS.length : Int) (Z : Int) = (Z : Int) := by omega
          have hnn : ((Z : Int) != (Z : Int)) = false := by simp
          have hLs : WS.length ≤ maxLen := by obtain ⟨_, h⟩ := hRD3.ws; exact ways_small h
          have HK3 := hid hK3; have HR3 := hid hRD3
          have HSV := hid sV
          clear hK hLp hK0 nL hK3 hRD3 hr1 hr2 hr3 hr4 hr5 hr6 hr7 sV sL hD hZ hZL
          have hzi : (Z : Int) ≤ (WS.length : Int) := by omega
          clear hzl
          gi_wp2_with fail
          all_goals
            obtain ⟨g1, g2, g3⟩ := HK3.out.turn ht _ rfl
            exact ⟨2 - (t + 1), by omega, t + 1, W3.heap.size, _, _, ⟨rfl, rfl⟩, ⟨rfl, rfl, rfl, rfl, rfl, rfl⟩, rfl, by omega, (by have := HK3.out.o1; have := HK3.out.o2; have := HK3.out.o3; have := HK3.out.sz; omega), g1, g2, g3⟩
    · have htz : ¬ (t : Int) < 2 := by omega
      have e2 : t = 2 := by omega
      subst e2
      rcases HDS.out with ⟨h, _⟩ | ⟨h, _⟩ | ⟨_, D1, D2, hd0, hd1, hd2, rfl, hd3, hd4⟩
      · omega
      · omega
      have HD3 := hid hd3; have HD4 := hid hd4; have HD1 := hid (And.intro hd0 (And.intro hd1 hd2))
      have HF6 := hid (box_set (v := .bool true) HRDr.out.y2)
      clear hd0 hd1 hd2 hd3 hd4 ht2 ht
      gi_wp2_with fail
      have hY9 := HRDr.out.y2
      have hlow := HRDr.out.low
      have hwy := HRDr.out.wy
      have hyw := HYW.out
      have hlo2 := (fr_set wr (Y + 2) 0 (.bool true)).below (n := Y) (fun b e => by omega) (by have := (Array.getElem?_eq_some_iff.1 hY9).1; omega)
      have f1 := HF6.out
      have hbb := HB.out.size
      obtain ⟨hd0, hd1, hd2⟩ := HD1.out
      have e1 : (wr.setCell ⟨Y + 2, 0, none⟩ (.bool true)).heap[D1]? = some (.deferred (some [])) := (set_far (by omega) _).trans HD3.out
      have e2 : (wr.setCell ⟨Y + 2, 0, none⟩ (.bool true)).heap[D2]? = some (.deferred (some [])) := (set_far (by omega) _).trans HD4.out
      generalize wr.setCell ⟨Y + 2, 0, none⟩ (.bool true) = Z at f1 e1 e2 hlo2 ⊢
      refine ⟨by simp, .inl ⟨_, _, rfl, run_takeDeferred e2, ?_⟩⟩
      have e3 : (Z.putObj D2 (.deferred none)).heap[D1]? = some (.deferred (some [])) := (World.putObj_heap_other (by omega)).trans e1
      refine ⟨by simp, .inl ⟨_, _, rfl, run_takeDeferred e3, ?_⟩⟩
      refine ⟨_, results_c1 rfl rfl (load_bool (v := true) (cell_box ((World.putObj_heap_other (by omega)).trans ((World.putObj_heap_other (by omega)).trans f1)) rfl)), rfl, ?_⟩
      have sZ1 := (Array.getElem?_eq_some_iff.1 e2).1
      have sZ2 := (Array.getElem?_eq_some_iff.1 e3).1
      rw [hwy]
      exact hlow.trans (hlo2.trans (((fr_one D2 _).below (n := Y) (fun b e => by omega) (by omega)).trans ((fr_one D1 _).below (n := Y) (fun b e => by omega) (by omega))))
end Go.Proofs.YtdpdpjfnanjmgaaDoor
