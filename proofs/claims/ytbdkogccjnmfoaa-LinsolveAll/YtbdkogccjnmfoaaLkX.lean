/- LinsolveAll: the walk. -/
import Derived.Test.YtbdkogccjnmfoaaLkW
namespace Go.Proofs.Ytbdkogccjnmfoaa
open Go.RowKit Go.Shelf

attribute [local go_sem] Oper.semAt_some

/-- All's function value, whichever it is, and what the document's All says. -/
theorem all_seq {a b : List Int} {w : World} {e : Ending} {w' : World} (h : AllEnd a b w e w') {L : List (List Nat)} (hL : (chkE a b ≠ 0 ∧ L = []) ∨ (chkE a b = 0 ∧ IsMin (pbOf a b) L)) : ∃ gf lb X Keep, e = .returned (.func (.func gf) #[] lb) ∧ SeqA X Keep L gf lb ∧ Keep w' ∧ (∀ b, X b → w.heap.size ≤ b ∧ b < w'.heap.size) ∧ Below w.heap.size w w' := by
  obtain ⟨hb, ⟨h0, rfl⟩ | ⟨h0, B0, rfl, hsd⟩⟩ := h
  · rcases hL with ⟨_, rfl⟩ | ⟨h1, _⟩
    · exact ⟨35, #[], _, _, rfl, seq_none, trivial, fun b hb => hb.elim, hb⟩
    · exact absurd h1 h0
  · rcases hL with ⟨h1, _⟩ | ⟨_, hL⟩
    · exact absurd h0 h1
    · exact ⟨36, _, _, _, rfl, seq_all h0 hL, hsd, fun b hb => hb, hb⟩
theorem min_ex (a b : List Int) : ∃ L, (chkE a b ≠ 0 ∧ L = []) ∨ (chkE a b = 0 ∧ IsMin (pbOf a b) L) := by
  by_cases h : chkE a b = 0
  · have h1 : ∀ (M : List (List Nat)), ∃ L : List (List Nat), L.Perm M ∧ L.Pairwise (fun a b => ¬ cmpL (toI b) (toI a) < 0) := by
      intro M
      induction M with
      | nil => exact ⟨[], .nil, .nil⟩
      | cons x M ih =>
        obtain ⟨L, q1, q2⟩ := ih
        have ins : ∀ (L : List (List Nat)), L.Pairwise (fun a b => ¬ cmpL (toI b) (toI a) < 0) → ∃ K : List (List Nat), K.Perm (x :: L) ∧ K.Pairwise (fun a b => ¬ cmpL (toI b) (toI a) < 0) := by
          intro L
          induction L with
          | nil => intro _; exact ⟨[x], .refl _, List.pairwise_singleton _ _⟩
          | cons y L ihL =>
            intro hp
            have hp' := List.pairwise_cons.1 hp
            by_cases hxy : cmpL (toI y) (toI x) < 0
            · obtain ⟨K, k1, k2⟩ := ihL hp'.2
              refine ⟨y :: K, (List.Perm.cons y k1).trans (List.Perm.swap x y L), List.pairwise_cons.2 ⟨fun z hz => ?_, k2⟩⟩
              rcases List.mem_cons.1 (k1.subset hz) with rfl | hz
              · have := cmpL_anti (toI y) (toI z); omega
              · exact hp'.1 z hz
            · refine ⟨x :: y :: L, .refl _, List.pairwise_cons.2 ⟨fun z hz => ?_, hp⟩⟩
              rcases List.mem_cons.1 hz with rfl | hz
              · exact hxy
              · exact cmpL_ntrans _ _ _ (hp'.1 z hz) hxy
        obtain ⟨K, k1, k2⟩ := ins L q2
        exact ⟨K, k1.trans (List.Perm.cons x q1), k2⟩
    obtain ⟨L, q1, q2⟩ := h1 (res (pbOf a b) 13 root)
    exact ⟨L, .inr ⟨h, q1, q2⟩⟩
  · exact ⟨[], .inl ⟨h, rfl⟩⟩
theorem gone_form {a b : List Int} {w : World} {e : Ending} {w' : World} (h : GoneEnd a b w e w') {L : List (List Nat)} (hL : (chkE a b ≠ 0 ∧ L = []) ∨ (chkE a b = 0 ∧ IsMin (pbOf a b) L)) : ∃ pm cm ms, e = .returned (.slice pm L.length cm) ∧ XRow w' 0 (.slice pm L.length cm) ms ∧ ms.map Vc.l = L ∧ Below w.heap.size w w' := by
  obtain ⟨hb, ⟨h0, rfl⟩ | ⟨h0, v, ms, rfl, hmin, hX, _⟩⟩ := h
  · rcases hL with ⟨_, rfl⟩ | ⟨h1, _⟩
    · exact ⟨none, 0, [], rfl, XRow.nil _ _, rfl, hb⟩
    · exact absurd h1 h0
  · rcases hL with ⟨h1, _⟩ | ⟨_, hL⟩
    · exact absurd h0 h1
    · have e1 := hmin.unique hL
      obtain ⟨pm, cm, rfl⟩ := hX.form
      have e2 : ms.length = L.length := by rw [← e1, List.length_map]
      rw [e2] at hX ⊢
      exact ⟨pm, cm, ms, rfl, hX.mono (Nat.zero_le _), e1, hb⟩
theorem min_small {a b : List Int} {L : List (List Nat)} (hL : (chkE a b ≠ 0 ∧ L = []) ∨ (chkE a b = 0 ∧ IsMin (pbOf a b) L)) : L.length ≤ 13060694016 ∧ ∀ l ∈ L, l.length ≤ 10 := by
  rcases hL with ⟨_, rfl⟩ | ⟨h0, hL⟩
  · exact ⟨Nat.zero_le _, by simp⟩
  · obtain ⟨l5, l6, _⟩ := chk_zero h0
    refine ⟨?_, fun l hl => by have := hL.len h0 hl; omega⟩
    have h1 := hL.perm.length_eq
    have h2 := Nat.le_trans (res_len (pbOf a b) 13 root) (siz_pow (p := pbOf a b) l5 l6 13 root)
    simp only [Nat.reducePow] at h2
    omega
set_option maxRecDepth 100000 in
set_option maxHeartbeats 16000000 in
theorem linsolveAll_walk (p : Option Addr) (c : Nat) (a : List Int) (q : Option Addr) (d : Nat) (b : List Int) (most : Int) (w : World) (hA : IntsAt w p a) (hB : IntsAt w q b) (hp : p = none → c = 0) (ha : a.length ≤ 17592186043904) (hq : q = none → d = 0) (hb : b.length ≤ 17592186043904) :
    Calls Try.prog 5 #[.slice p a.length c, .slice q b.length d, .int .i64 most] w fun e w' => e = .returned (.bool true) ∧ Below w.heap.size w w' := by
  refine (callsIn_wide (n := 20)).1 ?_
  have hmax : maxLen = 9223372036854775807 := rfl
  obtain ⟨L, hL⟩ := min_ex a b
  obtain ⟨hLs, hL10⟩ := min_small hL
  have HA := hid hA; have HB := hid hB; have HP := hid hp; have HQ := hid hq; have HLA := hid ha; have HLB := hid hb; have HL := hid hL; have HL10 := hid hL10
  have HST := hid (lists_start w most _ rfl)
  clear hA hB hp hq ha hb hL hL10
  refine callsIn_of_wp_marks Try.func5 rfl trivial ?_ rfl
  simp only [Try.ntmps5, List.size_toArray, List.length_cons, List.length_nil, Nat.reduceAdd, Nat.reduceSub, Array.replicate_succ, Array.replicate_zero, List.push_toArray, List.append_toArray, List.nil_append, List.cons_append]
  gi_wp2_with fail
  generalize (w.alloc (.cells #[.int .i64 most] 3)).alloc (.cells #[.bool false] 4) = A at HST ⊢
  obtain ⟨bA, nA0, nA1, sA⟩ := HST.out
  have HBA := hid bA; have HA0 := hid nA0; have HA1 := hid nA1; have HSA := hid sA
  clear bA nA0 nA1 sA HST
  refine ⟨trivial, ?_⟩
  refine (callsIn_wide.2 (lives_any A)).mono ?_
  rintro e w1 ⟨rfl, hb1⟩
  have HB1 := hid (HBA.out.trans (hb1.mono HBA.out.size)); have HX1 := hid hb1
  clear hb1
  gi_wp2_with fail
  refine ⟨trivial, ?_⟩
  refine (callsIn_wide.2 (lent_any p c a w1 (HA.out.below HB1.out) HP.out HLA.out)).mono ?_
  rintro e w2 ⟨g1, rfl, hl1, hb2⟩
  have HB2 := hid (HB1.out.trans (hb2.mono HB1.out.size)); have HX2 := hid (HX1.out.trans (hb2.mono HX1.out.size)); have HL1 := hid hl1
  have HS12 : Hid (w1.heap.size ≤ w2.heap.size ∧ A.heap.size ≤ w1.heap.size) := hid ⟨hb2.size, HX1.out.size⟩
  clear hl1 hb2
  gi_wp2_with fail
  refine ⟨trivial, ?_⟩
  refine (callsIn_wide.2 (lent_any q d b w2 (HB.out.below HB2.out) HQ.out HLB.out)).mono ?_
  rintro e w3 ⟨g2, rfl, hl2, hb3⟩
  have HB3 := hid (HB2.out.trans (hb3.mono HB2.out.size)); have HX3 := hid (HX2.out.trans (hb3.mono HX2.out.size)); have HL2 := hid hl2; have HL13 := hid (HL1.out.below hb3)
  have HS23 := hid hb3.size
  clear hl2 hb3
  gi_wp2_with fail
  refine ⟨trivial, ?_⟩
  refine (callsIn_wide.2 (all_any (some ⟨g1, 0, none⟩) (a.length + 1) a (some ⟨g2, 0, none⟩) (b.length + 1) b w3 HL13.out.ints.at HL2.out.ints.at)).mono ?_
  intro e w8 hend
  obtain ⟨gf, lb, X, Keep, rfl, hseq, hkeep, hXb, hb8⟩ := all_seq hend HL.out
  have b9 := alloc_below0 w8 (.cells #[.func (.func gf) #[] lb] 37)
  have n9 := World.alloc_heap_new w8 (.cells #[.func (.func gf) #[] lb] 37)
  have s9 := World.size_alloc w8 (.cells #[.func (.func gf) #[] lb] 37)
  have HB9 := hid (And.intro b9 (And.intro n9 s9))
  have HSEQ := hid hseq; have HKE := hid hkeep; have HXB := hid hXb; have HB8 := hid hb8
  clear b9 n9 s9 hend hseq hkeep hXb hb8
  gi_wp2_with fail
  generalize w8.alloc (.cells #[.func (.func gf) #[] lb] 37) = w9 at HB9 ⊢
  obtain ⟨b9, n9, s9⟩ := HB9.out
  have HZ9 : Hid (Below w3.heap.size w3 w9) := hid (HB8.out.trans (b9.mono HB8.out.size))
  have HW9 : Hid (Below w.heap.size w w9) := hid (HB3.out.trans (HZ9.out.mono HB3.out.size))
  have HN9 := hid n9; have HS9 := hid s9; have HB98 := hid b9
  clear b9 n9 s9 HB9
  refine ⟨trivial, ?_⟩
  refine (callsIn_wide.2 (kept_any _ g1 a p c w9 (HL13.out.below HZ9.out) (HA.out.below HW9.out) HLA.out)).mono ?_
  rintro e w10 ⟨rfl, hb10⟩
  have HZ10 := hid (HZ9.out.trans (hb10.mono HZ9.out.size)); have HW10 := hid (HW9.out.trans (hb10.mono HW9.out.size)); have HY10 := hid hb10
  clear hb10
  gi_wp2_with fail
  refine ⟨trivial, ?_⟩
  refine (callsIn_wide.2 (kept_any _ g2 b q d w10 (HL2.out.below HZ10.out) (HB.out.below HW10.out) HLB.out)).mono ?_
  rintro e w11 ⟨rfl, hb11⟩
  have HZ11 := hid (HZ10.out.trans (hb11.mono HZ10.out.size)); have HY11 := hid (HY10.out.trans (hb11.mono HY10.out.size))
  clear hb11
  gi_wp2_with fail
  have hk1 := HL13.out.below HZ11.out; have hk2 := HL2.out.below HZ11.out
  refine ⟨trivial, ?_⟩
  refine (callsIn_wide.2 (spoil2_any g1 a.length (a.length + 1) w11 ⟨_, hk1.blk, by simp [cAll_len]⟩ (by have := HLA.out; omega))).mono ?_
  rintro e w12 ⟨⟨u12, rfl⟩, hf12, _⟩
  have HF12 := hid hf12; have HK2 := hid hk2
  have HG1 : Hid (w1.heap.size ≤ g1 ∧ g1 < w2.heap.size) := hid ⟨HL1.out.ge, (Array.getElem?_eq_some_iff.1 HL1.out.blk).1⟩
  have HG2 : Hid (w2.heap.size ≤ g2 ∧ g2 < w3.heap.size) := hid ⟨HL2.out.ge, (Array.getElem?_eq_some_iff.1 HL2.out.blk).1⟩
  clear hf12 hk1 hk2
  gi_wp2_with fail
  refine ⟨trivial, ?_⟩
  have hk2' : w12.heap[g2]? = w11.heap[g2]? := HF12.out.same g2 (Array.getElem?_eq_some_iff.1 HK2.out.blk).1 (by have h1 := HG1.out; have h2 := HG2.out; omega)
  refine (callsIn_wide.2 (spoil2_any g2 b.length (b.length + 1) w12 ⟨_, hk2'.trans HK2.out.blk, by simp [cAll_len]⟩ (by have := HLB.out; omega))).mono ?_
  rintro e w13 ⟨⟨u13, rfl⟩, hf13, _⟩
  have HF : Hid (Fr (fun k => w1.heap.size ≤ k ∧ k < w3.heap.size) w11 w13) := hid ((HF12.out.mono (fun k hk => by have h1 := HG1.out; have := HS23.out; omega)).trans (hf13.mono (fun k hk => by have h1 := HG2.out; have := HS12.out; omega)))
  have hwl : Below w.heap.size w w13 := (HB3.out.trans (HZ11.out.mono HB3.out.size)).trans (HF.out.below (fun k hk => by have h1 := HS12.out; have := HBA.out.size; omega) (by have h1 := HB3.out.size; have h2 := HZ11.out.size; omega))
  have HWL := hid hwl
  clear hf13 hk2' hwl HF12 HK2
  gi_wp2_with fail
  refine ⟨trivial, ?_⟩
  refine (callsIn_wide.2 (rall_any p c a q d b w13 (HA.out.below HWL.out) (HB.out.below HWL.out))).mono ?_
  intro e w14 hend
  obtain ⟨pm, cm, ms, rfl, hXm, hml, hb14⟩ := gone_form hend HL.out
  have b15 := alloc_below0 w14 (.cells #[.slice pm L.length cm] 23)
  have n15 := World.alloc_heap_new w14 (.cells #[.slice pm L.length cm] 23)
  have s15 := World.size_alloc w14 (.cells #[.slice pm L.length cm] 23)
  have h128 := HB8.out.size; have h12 := HS12.out; have h23 := HS23.out; have hs9 := HS9.out; have hsA := HSA.out; have hbAs := HBA.out.size
  have hy11 := HY11.out.size; have hf11 := HF.out.low.size; have hs14 := hb14.size
  have keep : ∀ (bb : Nat), bb < w9.heap.size → ¬ (w1.heap.size ≤ bb ∧ bb < w3.heap.size) → w14.heap[bb]? = w9.heap[bb]? := fun bb h1 h2 => (hb14.block bb (by omega)).trans ((HF.out.same bb (by omega) h2).trans (HY11.out.block bb h1))
  have kY : ∀ (bb : Nat) (o : Obj), A.heap[bb]? = some o → w14.heap[bb]? = some o := fun bb o hb => by
    have hlt := (Array.getElem?_eq_some_iff.1 hb).1
    exact (keep bb (by omega) (by omega)).trans ((HZ9.out.block bb (by omega)).trans ((HX3.out.block bb hlt).trans hb))
  have HRD : Hid (Ready w w.heap.size w8.heap.size w14.heap.size most X Keep L gf lb pm cm ms (w14.alloc (.cells #[.slice pm L.length cm] 23))) := hid (by
    refine ⟨below_blk b15 (kY _ _ HA0.out), below_blk b15 (kY _ _ HA1.out), below_blk b15 ((keep _ (by omega) (by omega)).trans HN9.out), n15, hXm.below b15, hml, HSEQ.out, ?_, ?_, (HWL.out.trans (hb14.mono HWL.out.size)).trans (b15.mono (Nat.le_trans HWL.out.size hs14)), rfl⟩
    · refine HSEQ.out.same w8 _ HKE.out (fun bb hx => ?_)
      have hbb := HXB.out bb hx
      exact (b15.block bb (by omega)).trans ((keep bb (by omega) (by omega)).trans (HB98.out.block bb (by omega)))
    · intro bb hx
      have hbb := HXB.out bb hx
      omega)
  have HS13 : Hid ((w14.alloc (.cells #[.slice pm L.length cm] 23)).heap.size = w14.heap.size + 1) := hid s15
  have HB13 : Hid (w.heap.size + 2 ≤ w8.heap.size ∧ w8.heap.size < w14.heap.size) := hid ⟨by omega, by omega⟩
  clear b15 n15 s15 keep kY hXm hml hb14 hend HWL HF HG1 HG2 HZ11 HY11 HZ10 HW10 HY10 HZ9 HW9 HN9 HS9 HB98 HSEQ HKE HXB HB8 HL2 HL13 HL1 HX3 HX2 HX1 HB3 HB2 HB1 HS12 HS23 HBA HA0 HA1 HSA h128 h12 h23 hs9 hsA hbAs hy11 hf11 hs14 HA HB HP HQ HLA HLB
  have q10 := cell_box HRD.out.s10 (i := 0) rfl
  have heq : (binOp .eql 37 (.func (.func gf) #[] lb) .nilFunc).run Try.prog (w14.alloc (.cells #[.slice pm L.length cm] 23)) = .ok (.bool false) (w14.alloc (.cells #[.slice pm L.length cm] 23)) := rfl
  generalize w8.heap.size = S10 at *
  generalize hYY : w.heap.size = Y at *
  gi_wp2_with fail
  generalize w14.alloc (.cells #[.slice pm L.length cm] 23) = W13 at HRD q10 heq HS13 ⊢
  generalize w14.heap.size = S12 at *
  have b14 := alloc_below0 W13 (.cells #[.int .i64 0] 3)
  have n14 := World.alloc_heap_new W13 (.cells #[.int .i64 0] 3)
  have hS13 : W13.heap.size = S12 + 1 := HS13.out
  rw [hS13] at n14
  have HB14 := hid b14; have HN14 := hid n14
  clear q10 heq b14 n14
  generalize W13.alloc (.cells #[.int .i64 0] 3) = W14 at *
  refine loop_fuel (fun f a0 wr => ∃ (t T : Nat) (ds : List Deferred) (tm : Array Value), a0 = { tmps := tm, defers := ds } ∧ Slots Y S10 S12 T tm ∧ f = 2 - t ∧ t ≤ 2 ∧ S12 < T ∧ Below W13.heap.size W13 wr ∧ wr.heap[T]? = some (.cells #[.int .i64 (t : Int)] 3 (0, 0)) ∧ DSt W13.heap.size t ds T wr) 2 ?_ ?_
  · exact ⟨0, S12 + 1, [], _, rfl, ⟨rfl, rfl, rfl, rfl, rfl, rfl⟩, rfl, by omega, by omega, HB14.out, HN14.out, .inl ⟨rfl, rfl⟩⟩
  · rintro f a0 wr ⟨t, T, ds, tm, rfl, hsl, rfl, ht2, hT, hB, hTb, hDS⟩
    obtain ⟨u, rfl⟩ := slots_lit hsl
    clear hsl
    have hRD := HRD.out.below hB
    have q13 := cell_box hTb (i := 0) rfl
    have q6 := cell_box hRD.y1 (i := 0) rfl
    have f6 := free_box (i := 0) hRD.y1
    have HRDr := hid hRD; have HB := hid hB; have HTb := hid hTb; have HDS := hid hDS
    have hY1 : Y + 1 < S10 := by have := HB13.out; omega
    have hY2 : S10 < S12 := HB13.out.2
    clear hRD hB hTb hDS
    by_cases ht : t < 2
    · have htz : (t : Int) < 2 := by omega
      have q10 := cell_box HRDr.out.s10 (i := 0) rfl
      have bV := alloc_below0 wr (.cells #[.int .i64 0] 3)
      have nV := World.alloc_heap_new wr (.cells #[.int .i64 0] 3)
      have sV := World.size_alloc wr (.cells #[.int .i64 0] 3)
      have q10V := below_cell bV _ _ q10
      have HV := hid (And.intro bV (And.intro nV sV))
      clear bV nV sV q10 q6 f6
      gi_wp2_with fail
      generalize wr.alloc (.cells #[.int .i64 0] 3) = V at HV ⊢
      obtain ⟨bV, nV, sV⟩ := HV.out
      have hBw := HB.out.size
      have hTw : T < wr.heap.size := (Array.getElem?_eq_some_iff.1 HTb.out).1
      have hBV := HB.out.trans (bV.mono hBw)
      have hTV := below_blk bV HTb.out
      have hDV := HDS.out.below bV
      generalize wr.heap.size = Nn at *
      clear q10V q13 HV
      refine range_law rfl (by omega) (gf := gf) (lb := lb) rfl trivial HRD.out.seq.en ?_
      intro r hr1 hr2 hr3 hr4 hr5 hr6 hr7
      have bD := alloc_below0 V (.deferred (some []))
      have nD := World.alloc_heap_new V (.deferred (some []))
      have sD := World.size_alloc V (.deferred (some []))
      generalize V.alloc (.deferred (some [])) = VD at *
      have bL := alloc_below0 VD (.loop r)
      have nL := World.alloc_heap_new VD (.loop r)
      have sL := World.size_alloc VD (.loop r)
      generalize VD.alloc (.loop r) = W0 at *
      rw [sD] at bL nL sL
      have bW0 : Below V.heap.size V W0 := bD.trans (bL.mono (by omega))
      have nD0 : W0.heap[V.heap.size]? = some (.deferred (some [])) := (bL.block _ (by omega)).trans nD
      have hBW := hBV.trans (bW0.mono (by omega))
      have hTW := below_blk bW0 hTV
      have hNW := below_blk bW0 nV
      have hDW := hDV.below bW0
      obtain ⟨D, hD⟩ : ∃ D, V.heap.size = D := ⟨_, rfl⟩
      rw [hD] at sV nD0 nL sL bL ⊢
      have hB17 : W13.heap.size = S12 + 1 := HS13.out
      clear bD nD sD bL bW0 hBV hTV hDV bV nV
      have hK0 : TK W13 T Nn D t ds ((0 : Nat) : Int) W0 := ⟨hBW, hTW, hNW, nD0, hDW, by omega, by omega, by omega, by omega⟩
      clear hBW hTW hNW nD0 hDW
      refine (HRD.out.seq.go 15 (D + 1) (fun vs Vv k W => TK W13 T Nn D t ds (k : Int) W ∧ W.heap[D + 1]? = some (.loop r) ∧ VK L vs Vv D k W) (fun W => t = 0 ∧ TK W13 T Nn D t ds most W ∧ W.heap[D + 1]? = some (.loop { r with state := .done, pending := some (.exit 2) })) W0 (HRD.out.below hK0.low).keep ?_ ?_ ?_).mono ?_
      · intro bb hx
        have := HRD.out.xs bb hx
        have := hK0.low.size
        omega
      · intro vs W1 hb1 hvl hvec hnd
        refine ⟨hK0.fr (A := fun _ => False) (Fr.of_below hb1) (fun b hb => hb.elim), below_blk hb1 nL, hvl, hnd, fun x hx => ⟨by have := (hvec x hx).1; omega, ?_⟩, fun j hj _ => (hvec _ (List.getElem_mem hj)).2⟩
        obtain ⟨cur, k1, _⟩ := (hvec x hx).2.blk
        exact (Array.getElem?_eq_some_iff.1 k1).1
      · rintro mm vs Vv k W x hxk ⟨hK, hLp, hVK⟩ hVW hWV
        have key : ∀ R : Ending → World → Prop, (∀ W' : World, (∀ b, D + 2 ≤ b → b < Vv → (∀ x ∈ vs, x.b ≠ b) → W'.heap[b]? = W.heap[b]?) → Vv ≤ W'.heap.size → TK W13 T Nn D t ds ((k : Int) + 1) W' → W'.heap[D + 1]? = some (.loop r) → VK L vs Vv D (k + 1) W' → R (.returned (.bool true)) W') →
            (t = 0 → (k : Int) + 1 = most → ∀ W' : World, (∀ b, D + 2 ≤ b → b < Vv → (∀ x ∈ vs, x.b ≠ b) → W'.heap[b]? = W.heap[b]?) → Vv ≤ W'.heap.size → TK W13 T Nn D t ds ((k : Int) + 1) W' → W'.heap[D + 1]? = some (.loop { r with state := .done, pending := some (.exit 2) }) → R (.returned (.bool false)) W') → YieldAt Fence.wide mm Try.prog (D + 1) #[vcV x] W R := by
          intro R hX hYes
          refine yield_by hr5 hr6 hr3 hr4 hLp hr1 rfl hr7 ?_
          have HK := hid hK; have HLP := hid hLp; have HXK := hid hxk; have HX := hid hX; have HYY := hid hYes; have HVK := hid hVK
          have HSZ : Hid (Vv ≤ W.heap.size ∧ D + 2 ≤ Vv ∧ W0.heap.size = D + 2) := hid ⟨hVW, by omega, by omega⟩
          have HRA := hid (And.intro hr1 (And.intro hr2 hr7))
          have HSV := hid sV
          clear hX hYes hK hLp hxk hVK hVW hWV hr3 hr4 hr5 hr6 hK0 nL hr1 hr2 hr7 sV sL hD
          simp only [List.zip_toArray, List.zip_cons_cons, List.zip_nil_right, List.foldl_toArray, List.foldl_cons, List.foldl_nil, List.setIfInBounds_toArray, List.set_cons_succ, List.set_cons_zero]
          gi_wp2
          refine ⟨HLP.out, ?_⟩
          have hlt := HK.out.sz
          have hK2 := HK.out.fr (fr_one (W := W) (D + 1) (.loop { r with state := .busy })) (fun b e => by omega)
          have hL2 := World.putObj_heap_same (w := W) (o := .loop { r with state := .busy }) hlt
          have hsm2 : ∀ b, b ≠ D + 1 → (W.putObj (D + 1) (.loop { r with state := .busy })).heap[b]? = W.heap[b]? := fun b hb => World.putObj_heap_other hb
          have hs2 : (W.putObj (D + 1) (.loop { r with state := .busy })).heap.size = W.heap.size := by simp [World.putObj]
          generalize W.putObj (D + 1) (.loop { r with state := .busy }) = W2 at hK2 hL2 hsm2 hs2 ⊢
          have hRD2 := HRD.out.below hK2.low
          obtain ⟨hkl, hxe⟩ := List.getElem?_eq_some_iff.1 HXK.out
          have hVL : vs.length = L.length := by rw [← HVK.out.ml, List.length_map]
          have hML : ms.length = L.length := by rw [← hRD2.ml, List.length_map]
          have hkL : k < L.length := by omega
          have hkM : k < ms.length := by omega
          obtain ⟨gm, hgm, _, _, _, hcm⟩ := hRD2.mr.cell k hkM
          have hvm := hRD2.mr.vec _ (List.getElem_mem hkM)
          have hlk : ms[k].l = x.l := by
            have e1 : (ms.map Vc.l)[k]'(by rw [List.length_map]; exact hkM) = L[k] := by simp only [hRD2.ml]
            have e2 : (vs.map Vc.l)[k]'(by rw [List.length_map]; exact hkl) = L[k] := by simp only [HVK.out.ml]
            rw [List.getElem_map] at e1 e2
            rw [e1, ← e2, hxe]
          have hfx := HVK.out.far x (by rw [← hxe]; exact List.getElem_mem hkl)
          have hvx : VcAt W2 x := by
            have h1 := HVK.out.vec k hkl (Nat.le_refl _)
            rw [hxe] at h1
            exact h1.same (hsm2 _ (by omega))
          have hx10 : x.l.length ≤ 10 := HL10.out _ (by
            rw [← HVK.out.ml]
            exact List.mem_map.2 ⟨x, by rw [← hxe]; exact List.getElem_mem hkl, rfl⟩)
          subst hgm
          have hSM := same_any (some ⟨x.b, 0, none⟩) x.c (toI x.l) (some ⟨ms[k].b, 0, none⟩) ms[k].c (toI ms[k].l) W2 (hvx.ints0 (by omega)) (hvm.ints0 (by rw [hlk]; omega))
          rw [hlk, toI_len, show decide (toI x.l = toI x.l) = true by simp] at hSM
          have x14 := cell_box hK2.nb (i := 0) rfl
          have x13 := cell_box hK2.tb (i := 0) rfl
          have x12 := cell_box hRD2.s12 (i := 0) rfl
          have x10 := cell_box hRD2.s10 (i := 0) rfl
          have x5 := cell_box hRD2.y0 (i := 0) rfl
          have hcm' : W2.cell? ⟨gm, k, none⟩ = some (.slice (some ⟨ms[k].b, 0, none⟩) x.l.length ms[k].c) := by rw [hcm]; show some (Value.slice (some ⟨ms[k].b, 0, none⟩) ms[k].l.length ms[k].c) = _; rw [hlk]
          have hkz : (k : Int) < (L.length : Int) := by omega
          have hge : ¬ (L.length : Int) ≤ (k : Int) := by omega
          have HK2 := hid hK2; have HL2 := hid hL2; have HSM := hid hsm2; have HS2 := hid hs2; have HVX := hid hvx; have HSA := hid hSM; have HFX := hid hfx; have HXE := hid hxe; have HKL := hid hkl
          generalize ms[k].b = Bm at hcm' HSA
          generalize ms[k].c = Cm at hcm' HSA
          clear hK2 hL2 hsm2 hs2 hRD2 hlt hvm hcm hlk hfx hvx hSM hxe
          gi_wp2_with fail
          refine ⟨trivial, (fun h => by cases h), ?_⟩
          refine (CallsIn.inRound _ (callsIn_wide.2 HSA.out)).mono ?_
          rintro e W3 ⟨rfl, hb3⟩
          have hv3 : VcAt W3 x := HVX.out.same (hb3.block _ (by obtain ⟨cur, k1, _⟩ := HVX.out.blk; exact (Array.getElem?_eq_some_iff.1 k1).1))
          obtain ⟨cur3, hc3, _, hc4, hc5⟩ := hv3.blk
          have HSP := hid (spoil2_any x.b x.l.length x.c W3 ⟨cur3, hc3, hc4⟩ hc5)
          have HB3 := hid hb3
          clear hb3 hv3 hc3 hc4 hc5 HSA x14 x13 x12 x10 x5 hcm'
          gi_wp2_with fail
          refine ⟨trivial, (fun h => by cases h), ?_⟩
          refine (CallsIn.inRound _ (callsIn_wide.2 HSP.out)).mono ?_
          rintro e W4 ⟨⟨u4, rfl⟩, hf4, _⟩
          have hfr : Fr (fun q => q = x.b) W2 W4 := (Fr.of_below HB3.out).trans hf4
          have hK4 := HK2.out.fr hfr (fun b e => by have := HFX.out; omega)
          have hL4 : W4.heap[D + 1]? = some (.loop { r with state := .busy }) := (hfr.same _ (Array.getElem?_eq_some_iff.1 HL2.out).1 (by have := HFX.out; omega)).trans HL2.out
          have hsm4 : ∀ b, D + 2 ≤ b → b < Vv → b ≠ x.b → W4.heap[b]? = W.heap[b]? := fun b h1 h2 h3 => (hfr.same b (by have := HSZ.out; have := HS2.out; omega) h3).trans (HSM.out b (by omega))
          have hs4 : W.heap.size ≤ W4.heap.size := by have := hfr.low.size; have := HS2.out; omega
          have hRD4 := HRD.out.below hK4.low
          have x14 := cell_box hK4.nb (i := 0) rfl
          have x13 := cell_box hK4.tb (i := 0) rfl
          have x12 := cell_box hRD4.s12 (i := 0) rfl
          have x10 := cell_box hRD4.s10 (i := 0) rfl
          have x5 := cell_box hRD4.y0 (i := 0) rfl
          have f14 := free_box (i := 0) hK4.nb
          -- a round's end, from a world that keeps all of this one
          have hfin : ∀ W5 : World, Below W4.heap.size W4 W5 → ∀ (o : Obj), (W5.setCell ⟨Nn, 0, none⟩ (.int .i64 ((k : Int) + 1))).heap[D + 1]? = some (.loop { r with state := .busy }) ∧ (∀ b, D + 2 ≤ b → b < Vv → (∀ x ∈ vs, x.b ≠ b) → ((W5.setCell ⟨Nn, 0, none⟩ (.int .i64 ((k : Int) + 1))).putObj (D + 1) o).heap[b]? = W.heap[b]?) ∧ Vv ≤ ((W5.setCell ⟨Nn, 0, none⟩ (.int .i64 ((k : Int) + 1))).putObj (D + 1) o).heap.size ∧ TK W13 T Nn D t ds ((k : Int) + 1) ((W5.setCell ⟨Nn, 0, none⟩ (.int .i64 ((k : Int) + 1))).putObj (D + 1) o) ∧ ((W5.setCell ⟨Nn, 0, none⟩ (.int .i64 ((k : Int) + 1))).putObj (D + 1) o).heap[D + 1]? = some o ∧ VK L vs Vv D (k + 1) ((W5.setCell ⟨Nn, 0, none⟩ (.int .i64 ((k : Int) + 1))).putObj (D + 1) o) := fun W5 hb5 o => by
            have hsz := HSZ.out
            have hK5 := hK4.fr (A := fun _ => False) (Fr.of_below hb5) (fun b hb => hb.elim)
            obtain ⟨g1, g2, g3, g4, g5⟩ := hK5.ends (below_blk hb5 hL4) ((k : Int) + 1) _ rfl o
            have hz5 := hb5.size
            have hall : ∀ b, D + 2 ≤ b → b < Vv → b ≠ x.b → ((W5.setCell ⟨Nn, 0, none⟩ (.int .i64 ((k : Int) + 1))).putObj (D + 1) o).heap[b]? = W.heap[b]? := fun b h1 h2 h3 => (g2 b h1).trans ((hb5.block b (by omega)).trans (hsm4 b h1 h2 h3))
            refine ⟨g1, fun b h1 h2 h3 => hall b h1 h2 (fun e => h3 x (by rw [← HXE.out]; exact List.getElem_mem HKL.out) e.symm), by omega, g3, g4, HVK.out.next (fun j hj hkj => ?_)⟩
            have hf := HVK.out.far _ (List.getElem_mem hj)
            refine hall _ hf.1 hf.2 ?_
            have := HVK.out.ne j HKL.out hj (by omega)
            rw [HXE.out] at this
            exact this
          have HFIN := hid hfin; have HK4 := hid hK4; have HL4 := hid hL4; have HS4 := hid hs4; have HR4 := hid hRD4
          clear hfin hK4 hL4 hsm4 hs4 hRD4 hfr hf4 HSP
          by_cases ht0 : t = 0
          · have hq1 : ((t : Int) == 0) = true := by simp [ht0]
            have HT0 := hid ht0
            clear ht0
            by_cases hk0 : k = 0
            · have hq0 : ((k : Int) == 0) = true := by simp [hk0]
              clear hk0
              have bV2 := alloc_below0 W4 (.cells #[.int .i64 0] 3)
              have nV2 := World.alloc_heap_new W4 (.cells #[.int .i64 0] 3)
              have sV2 := World.size_alloc W4 (.cells #[.int .i64 0] 3)
              have q10V := below_cell bV2 _ _ x10
              have HV2 := hid (And.intro bV2 (And.intro nV2 sV2))
              clear bV2 nV2 sV2
              gi_wp2_with fail
              generalize W4.alloc (.cells #[.int .i64 0] 3) = V2 at HV2 ⊢
              obtain ⟨bV2, nV2, sV2⟩ := HV2.out
              obtain ⟨I0, hI0⟩ : ∃ I0, W4.heap.size = I0 := ⟨_, rfl⟩
              rw [hI0] at bV2 nV2 sV2 ⊢
              refine range_inner rfl (below_blk (hI0 ▸ bV2) HL4.out) (fun h => by cases h) (gf := gf) (lb := lb) rfl trivial HRD.out.seq.en ?_
              intro r2 k1 k2 k3 k4 k5 k6 k7
              have bL3 := alloc_below0 V2 (.loop r2)
              have nL3 := World.alloc_heap_new V2 (.loop r2)
              have sL3 := World.size_alloc V2 (.loop r2)
              generalize V2.alloc (.loop r2) = V3 at *
              rw [sV2] at bL3 nL3 sL3 ⊢
              have hbV3 : Below W4.heap.size W4 V3 := by rw [hI0]; exact bV2.trans (bL3.mono (by omega))
              have hnV3 : V3.heap[I0]? = some (.cells #[.int .i64 0] 3 (0, 0)) := (bL3.block _ (by omega)).trans nV2
              have hxs3 : ∀ bb, X bb → bb < V3.heap.size := fun bb hx => by
                have := HR4.out.xs bb hx
                omega
              refine CallsIn.mono (CallsIn.inRound _ (callsIn_wide.2 (callsIn_wide.1 (HRD.out.seq.go 0 (I0 + 1) (fun vs2 _ i W' => Below W4.heap.size W4 W' ∧ W'.heap[I0]? = some (.cells #[.int .i64 (i : Int)] 3 (0, 0)) ∧ W'.heap[I0 + 1]? = some (.loop r2) ∧ I0 + 1 < W'.heap.size ∧ vs2.map Vc.l = L) (fun _ => False) V3 (HR4.out.below hbV3).keep hxs3 ?_ ?_)))) ?_
              · intro vs2 W1 hb1 hvl2 _ _
                exact ⟨hbV3.trans (hb1.mono hbV3.size), below_blk hb1 hnV3, below_blk hb1 nL3, by have := hb1.size; omega, hvl2⟩
              · rintro m2 vs2 Vw i W' x2 hxi ⟨j1, j2, j3, j4, hvl2⟩ hVw hWv
                have key2 : ∀ R : Ending → World → Prop, (∀ Z : World, (∀ b, I0 + 2 ≤ b → Z.heap[b]? = W'.heap[b]?) → Z.heap.size = W'.heap.size → (Below W4.heap.size W4 Z ∧ Z.heap[I0]? = some (.cells #[.int .i64 ((i : Int) + 1)] 3 (0, 0)) ∧ Z.heap[I0 + 1]? = some (.loop r2) ∧ I0 + 1 < Z.heap.size) → R (.returned (.bool true)) Z) → YieldAt Fence.wide m2 Try.prog (I0 + 1) #[vcV x2] W' R := by
                  intro R hX
                  refine yield_by k5 k6 k3 k4 j3 k1 rfl k7 ?_
                  have hil : i < L.length := by rw [← hvl2, List.length_map]; exact (List.getElem?_eq_some_iff.1 hxi).1
                  have HX2 := hid hX; have HJ := hid (And.intro j1 (And.intro j2 (And.intro j3 j4))); have HRB := hid (And.intro k1 k2)
                  have hiz : (i : Int) < (L.length : Int) := by omega
                  have HI := hid hI0
                  clear hX j1 j2 j3 j4 k1 k2 k3 k4 k5 k6 k7 hVw hWv hxi bL3 nL3 sL3 bV2 nV2 sV2 hI0 HV2 hbV3 hnV3 hxs3
                  simp only [List.zip_toArray, List.zip_cons_cons, List.zip_nil_right, List.foldl_toArray, List.foldl_cons, List.foldl_nil, List.setIfInBounds_toArray, List.set_cons_succ, List.set_cons_zero]
                  gi_wp2
                  refine ⟨HJ.out.2.2.1, ?_⟩
                  obtain ⟨j1, j2, j3, j4⟩ := HJ.out
                  have y17 := cell_box ((World.putObj_heap_other (w := W') (o := .loop { r2 with state := .busy }) (show I0 ≠ I0 + 1 by omega)).trans j2) (i := 0) rfl
                  have g17 := free_box (i := 0) ((World.putObj_heap_other (w := W') (o := .loop { r2 with state := .busy }) (show I0 ≠ I0 + 1 by omega)).trans j2)
                  clear j1 j2 j3 j4
                  gi_wp2_with fail
                  obtain ⟨j1, j2, j3, j4⟩ := HJ.out
                  have hI0 := HI.out
                  have e1 := fr_one (W := W') (I0 + 1) (.loop { r2 with state := .busy })
                  have e2 : (W'.putObj (I0 + 1) (.loop { r2 with state := .busy })).heap[I0]? = _ := (World.putObj_heap_other (by omega)).trans j2
                  have e3 := World.putObj_heap_same (w := W') (o := .loop { r2 with state := .busy }) j4
                  have e4 : ∀ b, b ≠ I0 + 1 → (W'.putObj (I0 + 1) (.loop { r2 with state := .busy })).heap[b]? = W'.heap[b]? := fun b hb => World.putObj_heap_other hb
                  have e0 : (W'.putObj (I0 + 1) (.loop { r2 with state := .busy })).heap.size = W'.heap.size := by simp [World.putObj]
                  generalize W'.putObj (I0 + 1) (.loop { r2 with state := .busy }) = Z1 at e0 e1 e2 e3 e4 ⊢
                  have e5 := fr_set Z1 I0 0 (.int .i64 ((i : Int) + 1))
                  have e6 := set_box (v := .int .i64 ((i : Int) + 1)) e2
                  have e7 : ∀ b, b ≠ I0 → (Z1.setCell ⟨I0, 0, none⟩ (.int .i64 ((i : Int) + 1))).heap[b]? = Z1.heap[b]? := fun b hb => set_far hb _
                  have e10 : (Z1.setCell ⟨I0, 0, none⟩ (.int .i64 ((i : Int) + 1))).heap.size = Z1.heap.size := by simp [World.setCell]
                  generalize Z1.setCell ⟨I0, 0, none⟩ (.int .i64 ((i : Int) + 1)) = Z2 at e5 e6 e7 e10 ⊢
                  have e8 : Z2.heap[I0 + 1]? = some (.loop { r2 with state := .busy }) := (e7 _ (by omega)).trans e3
                  have e9 := (Array.getElem?_eq_some_iff.1 e8).1
                  refine ⟨e8, HX2.out _ (fun b hb => (World.putObj_heap_other (by omega)).trans ((e7 _ (by omega)).trans (e4 _ (by omega)))) ?_ ⟨j1.trans ((e1.below (n := W4.heap.size) (fun b e => by omega) (by omega)).trans ((e5.below (n := W4.heap.size) (fun b e => by omega) (by have := e1.low.size; omega)).trans ((fr_one (I0 + 1) _).below (n := W4.heap.size) (fun b e => by omega) (by omega)))), (World.putObj_heap_other (by omega)).trans e6, ?_, by simp [World.putObj]; exact e9⟩⟩
                  · rw [show (Z2.putObj (I0 + 1) (.loop { r2 with state := .ready, pending := none })).heap.size = Z2.heap.size by simp [World.putObj]]
                    omega
                  · rw [loop_again HRB.out.1 HRB.out.2]
                    exact World.putObj_heap_same e9
                refine key2 _ (fun Z z1 z3 z2 => ⟨fun b hb1 hb2 _ => z1 b (by omega), by omega, .inl ⟨rfl, ?_⟩⟩)
                rw [show (((i + 1 : Nat)) : Int) = (i : Int) + 1 by omega]
                exact ⟨z2.1, z2.2.1, z2.2.2.1, z2.2.2.2, hvl2⟩
              · rintro e2 W' ⟨⟨v2, rfl⟩, (⟨vs2, V9, hv9, j1, j2, j3, j4, _⟩ | hfa)⟩
                · refine ⟨⟨v2, rfl⟩, .inl ⟨j3, ?_⟩⟩
                  have hl9 : vs2.length = L.length := by rw [← hv9, List.length_map]
                  rw [hl9] at j2
                  have B5 := j1.trans ((fr_one (W := W') (I0 + 1) (.loop { r2 with state := .exhausted })).below (n := W4.heap.size) (fun b e => by omega) (by omega))
                  have n5 : (W'.putObj (I0 + 1) (.loop { r2 with state := .exhausted })).heap[I0]? = _ := (World.putObj_heap_other (by omega)).trans j2
                  generalize W'.putObj (I0 + 1) (.loop { r2 with state := .exhausted }) = W5 at B5 n5 ⊢
                  have HK5 := hid (HK4.out.fr (A := fun _ => False) (Fr.of_below B5) (fun b hb => hb.elim))
                  have HFI5 := hid (HFIN.out W5 B5)
                  have z17 := cell_box n5 (i := 0) rfl
                  have z14 := below_cell B5 _ _ x14
                  have z13 := below_cell B5 _ _ x13
                  have z12 := below_cell B5 _ _ x12
                  have z5 := below_cell B5 _ _ x5
                  have h14 := free_box (i := 0) HK5.out.nb
                  have hnn : ((L.length : Int) != (L.length : Int)) = false := by simp
                  clear j1 j2 j3 j4 k1 k2 k3 k4 k5 k6 k7 bL3 nL3 sL3 bV2 nV2 sV2 hI0 HV2 B5 n5 x14 x13 x12 x10 x5 f14 q10V hbV3 hnV3 hxs3 hv9 hl9
                  by_cases hmo : (k : Int) + 1 = most
                  · have hq2 : ((k : Int) + 1 == most) = true := by simpa using hmo
                    have HMO := hid hmo
                    clear hmo
                    gi_wp2_with fail
                    obtain ⟨g1, g2, g3, g4, g5, _⟩ := HFI5.out (.loop { r with state := .done, pending := some (.exit 2) })
                    exact ⟨g1, HYY.out HT0.out HMO.out _ g2 g3 g4 g5⟩
                  · have hq2 : ((k : Int) + 1 == most) = false := by simpa using hmo
                    clear hmo
                    gi_wp2_with fail
                    obtain ⟨g1, g2, g3, g4, g5, g6⟩ := HFI5.out (.loop { r with state := .ready, pending := none })
                    refine ⟨g1, HX.out _ g2 g3 g4 ?_ g6⟩
                    rw [loop_again HRA.out.1 HRA.out.2.1] at g5 ⊢
                    exact g5
                · exact hfa.elim
            · have hq0 : ((k : Int) == 0) = false := by simpa using hk0
              clear hk0
              by_cases hmo : (k : Int) + 1 = most
              · have hq2 : ((k : Int) + 1 == most) = true := by simpa using hmo
                have HMO := hid hmo
                clear hmo
                gi_wp2_with fail
                obtain ⟨g1, g2, g3, g4, g5, _⟩ := HFIN.out W4 (Below.refl _ _) (.loop { r with state := .done, pending := some (.exit 2) })
                exact ⟨g1, HYY.out HT0.out HMO.out _ g2 g3 g4 g5⟩
              · have hq2 : ((k : Int) + 1 == most) = false := by simpa using hmo
                clear hmo
                gi_wp2_with fail
                obtain ⟨g1, g2, g3, g4, g5, g6⟩ := HFIN.out W4 (Below.refl _ _) (.loop { r with state := .ready, pending := none })
                refine ⟨g1, HX.out _ g2 g3 g4 ?_ g6⟩
                rw [loop_again HRA.out.1 HRA.out.2.1] at g5 ⊢
                exact g5
          · have hq1 : ((t : Int) == 0) = false := by simpa using ht0
            clear ht0
            by_cases hk0 : k = 0
            · have hq0 : ((k : Int) == 0) = true := by simp [hk0]
              clear hk0
              gi_wp2_with fail
              obtain ⟨g1, g2, g3, g4, g5, g6⟩ := HFIN.out W4 (Below.refl _ _) (.loop { r with state := .ready, pending := none })
              refine ⟨g1, HX.out _ g2 g3 g4 ?_ g6⟩
              rw [loop_again HRA.out.1 HRA.out.2.1] at g5 ⊢
              exact g5
            · have hq0 : ((k : Int) == 0) = false := by simpa using hk0
              clear hk0
              gi_wp2_with fail
              obtain ⟨g1, g2, g3, g4, g5, g6⟩ := HFIN.out W4 (Below.refl _ _) (.loop { r with state := .ready, pending := none })
              refine ⟨g1, HX.out _ g2 g3 g4 ?_ g6⟩
              rw [loop_again HRA.out.1 HRA.out.2.1] at g5 ⊢
              exact g5
        refine key _ (fun W' h1 h2 h3 h4 h5 => ⟨fun b hb1 hb2 hb3 => h1 b (by omega) hb2 hb3, h2, .inl ⟨rfl, ?_, h4, h5⟩⟩) (fun h0 hm W' h1 h2 h3 h4 => ⟨fun b hb1 hb2 hb3 => h1 b (by omega) hb2 hb3, h2, .inr ⟨rfl, h0, hm ▸ h3, h4⟩⟩)
        rw [show (((k + 1 : Nat)) : Int) = (k : Int) + 1 by omega]
        exact h3
      · rintro e W ⟨⟨v, rfl⟩, (⟨vs9, V9, hv9, hK, hLp, _⟩ | ⟨ht0, hK, hLp⟩)⟩
        · refine ⟨⟨v, rfl⟩, hK.db, .inl ⟨hLp, ?_⟩⟩
          have hl9 : vs9.length = L.length := by rw [← hv9, List.length_map]
          rw [hl9] at hK
          have hK3 := hK.fr (fr_one (W := W) (D + 1) (.loop { r with state := .exhausted })) (fun b e => by omega)
          generalize W.putObj (D + 1) (.loop { r with state := .exhausted }) = W3 at hK3 ⊢
          have hRD3 := HRD.out.below hK3.low
          have x14 := cell_box hK3.nb (i := 0) rfl
          have x13 := cell_box hK3.tb (i := 0) rfl
          have x12 := cell_box hRD3.s12 (i := 0) rfl
          have x5 := cell_box hRD3.y0 (i := 0) rfl
          have hnn : ((L.length : Int) != (L.length : Int)) = false := by simp
          have HK3 := hid hK3
          clear hK hLp hK0 nL hK3 hRD3 hr1 hr2 hr3 hr4 hr5 hr6 hr7 hv9 hl9
          have HSV := hid sV
          clear sV sL hD
          gi_wp2_with fail
          obtain ⟨g1, g2, g3⟩ := HK3.out.turn ht _ rfl
          exact ⟨2 - (t + 1), by omega, t + 1, W3.heap.size, _, _, rfl, ⟨rfl, rfl, rfl, rfl, rfl, rfl⟩, rfl, by omega, (by have := HK3.out.o1; have := HK3.out.o2; have := HK3.out.o3; have := HK3.out.sz; omega), g1, g2, g3⟩
        · refine ⟨⟨v, rfl⟩, hK.db, .inr ⟨_, hLp, ?_⟩⟩
          have hK3 := hK.fr (fr_one (W := W) (D + 1) (.loop { r with state := .exhausted, pending := some (.exit 2) })) (fun b e => by omega)
          generalize W.putObj (D + 1) (.loop { r with state := .exhausted, pending := some (.exit 2) }) = W3 at hK3 ⊢
          have hRD3 := HRD.out.below hK3.low
          have x14 := cell_box hK3.nb (i := 0) rfl
          have x13 := cell_box hK3.tb (i := 0) rfl
          have x12 := cell_box hRD3.s12 (i := 0) rfl
          have x5 := cell_box hRD3.y0 (i := 0) rfl
          have hnn : (most != most) = false := by simp
          have ht1 : ((t : Int) == 1) = false := by simp [ht0]
          have HK3 := hid hK3; have HT0 := hid ht0
          have HSV := hid sV
          clear hK hLp hK0 nL hK3 hRD3 hr1 hr2 hr3 hr4 hr5 hr6 hr7 ht0 sV sL hD
          by_cases hml : most = (L.length : Int)
          · have hnl : (most != (L.length : Int)) = false := by simpa using hml
            clear hml
            gi_wp2_with fail
            obtain ⟨g1, g2, g3⟩ := HK3.out.turn ht _ rfl
            exact ⟨2 - (t + 1), by omega, t + 1, W3.heap.size, _, _, rfl, ⟨rfl, rfl, rfl, rfl, rfl, rfl⟩, rfl, by omega, (by have := HK3.out.o1; have := HK3.out.o2; have := HK3.out.o3; have := HK3.out.sz; omega), g1, g2, g3⟩
          · have hnl : (most != (L.length : Int)) = true := by simpa using hml
            clear hml
            gi_wp2_with fail
            obtain ⟨g1, g2, g3⟩ := HK3.out.turn ht _ rfl
            exact ⟨2 - (t + 1), by omega, t + 1, W3.heap.size, _, _, rfl, ⟨rfl, rfl, rfl, rfl, rfl, rfl⟩, rfl, by omega, (by have := HK3.out.o1; have := HK3.out.o2; have := HK3.out.o3; have := HK3.out.sz; omega), g1, g2, g3⟩
    · have htz : ¬ (t : Int) < 2 := by omega
      have e2 : t = 2 := by omega
      subst e2
      rcases HDS.out with ⟨h, _⟩ | ⟨h, _⟩ | ⟨_, D1, D2, hd0, hd1, hd2, rfl, hd3, hd4⟩
      · omega
      · omega
      have HD3 := hid hd3; have HD4 := hid hd4; have HD1 := hid (And.intro hd0 (And.intro hd1 hd2))
      have HF6 := hid (set_box (v := .bool true) HRDr.out.y1)
      clear hd0 hd1 hd2 hd3 hd4 ht2 ht
      gi_wp2_with fail
      have hY9 := HRDr.out.y1
      have hlow := HRDr.out.low
      have hwy := HRDr.out.wy
      have hlo2 := (fr_set wr (Y + 1) 0 (.bool true)).below (n := Y) (fun b e => by omega) (by have := (Array.getElem?_eq_some_iff.1 hY9).1; omega)
      have f1 := HF6.out
      have hbb := HB.out.size
      have hs13 := HS13.out
      obtain ⟨hd0, hd1, hd2⟩ := HD1.out
      have e1 : (wr.setCell ⟨Y + 1, 0, none⟩ (.bool true)).heap[D1]? = some (.deferred (some [])) := (set_far (by omega) _).trans HD3.out
      have e2 : (wr.setCell ⟨Y + 1, 0, none⟩ (.bool true)).heap[D2]? = some (.deferred (some [])) := (set_far (by omega) _).trans HD4.out
      generalize wr.setCell ⟨Y + 1, 0, none⟩ (.bool true) = Z at f1 e1 e2 hlo2 ⊢
      refine ⟨by simp, .inl ⟨_, _, rfl, run_takeDeferred e2, ?_⟩⟩
      have e3 : (Z.putObj D2 (.deferred none)).heap[D1]? = some (.deferred (some [])) := (World.putObj_heap_other (by omega)).trans e1
      refine ⟨by simp, .inl ⟨_, _, rfl, run_takeDeferred e3, ?_⟩⟩
      refine ⟨_, results_c1 rfl rfl (load_bool ((World.putObj_heap_other (by omega)).trans ((World.putObj_heap_other (by omega)).trans f1))), rfl, ?_⟩
      have sZ1 := (Array.getElem?_eq_some_iff.1 e2).1
      have sZ2 := (Array.getElem?_eq_some_iff.1 e3).1
      exact hlow.trans (hlo2.trans (((fr_one D2 _).below (n := Y) (fun b e => by omega) (by omega)).trans ((fr_one D1 _).below (n := Y) (fun b e => by omega) (by omega))))
end Go.Proofs.Ytbdkogccjnmfoaa
