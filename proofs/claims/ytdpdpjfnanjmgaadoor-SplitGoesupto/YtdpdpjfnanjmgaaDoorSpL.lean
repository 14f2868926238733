/- All's iterator, walked. -/
import Derived.Test.YtdpdpjfnanjmgaaDoorSpI
namespace Go.Proofs.YtdpdpjfnanjmgaaDoor
open Go.RowKit Go.Shelf

/-- The slots of the iterator. -/
abbrev itC (lp X Bf : Nat) (sv : Value) (u : Nat → Value) : Array Value := #[.func (.yield lp) #[] #[], .pointer (some ⟨X, 0, none⟩), .pointer (some ⟨Bf, 0, none⟩), u 3, sv, u 5, u 6, u 7, u 8, u 9, u 10, u 11, u 12, u 13, u 14, u 15, u 16, u 17, u 18, u 19, u 20, u 21, u 22, u 23, u 24, u 25, u 26, u 27, u 28, u 29, u 30, u 31, u 32, u 33, u 34, u 35, u 36, u 37, u 38]
structure Slots (lp X Bf : Nat) (sv : Value) (tm : Array Value) : Prop where
  size : tm.size = 39
  s0 : tm.getD 0 undef = .func (.yield lp) #[] #[]
  s1 : tm.getD 1 undef = .pointer (some ⟨X, 0, none⟩)
  s2 : tm.getD 2 undef = .pointer (some ⟨Bf, 0, none⟩)
  s4 : tm.getD 4 undef = sv
theorem arr_lit (tm : Array Value) (n : Nat) (h : tm.size = n) : tm = ((List.range n).map (fun i => tm.getD i undef)).toArray := by
  refine Array.ext (by simp [h]) (fun i h1 h2 => ?_)
  simp [h1]
set_option maxRecDepth 100000 in
theorem slots_lit {lp X Bf : Nat} {sv : Value} {tm : Array Value} (h : Slots lp X Bf sv tm) : ∃ u : Nat → Value, tm = itC lp X Bf sv u := by
  refine ⟨fun i => tm.getD i undef, ?_⟩
  have e1 : (List.range 39).map (fun i => tm.getD i undef) = [tm.getD 0 undef, tm.getD 1 undef, tm.getD 2 undef, tm.getD 3 undef, tm.getD 4 undef, tm.getD 5 undef, tm.getD 6 undef, tm.getD 7 undef, tm.getD 8 undef, tm.getD 9 undef, tm.getD 10 undef, tm.getD 11 undef, tm.getD 12 undef, tm.getD 13 undef, tm.getD 14 undef, tm.getD 15 undef, tm.getD 16 undef, tm.getD 17 undef, tm.getD 18 undef, tm.getD 19 undef, tm.getD 20 undef, tm.getD 21 undef, tm.getD 22 undef, tm.getD 23 undef, tm.getD 24 undef, tm.getD 25 undef, tm.getD 26 undef, tm.getD 27 undef, tm.getD 28 undef, tm.getD 29 undef, tm.getD 30 undef, tm.getD 31 undef, tm.getD 32 undef, tm.getD 33 undef, tm.getD 34 undef, tm.getD 35 undef, tm.getD 36 undef, tm.getD 37 undef, tm.getD 38 undef] := rfl
  have e2 := arr_lit tm 39 h.size
  rw [e1, h.s0, h.s1, h.s2, h.s4] at e2
  exact e2
/-- How the walk stands. -/
structure ItSt (K T : Nat) (k : List Nat) (f : Nat → Nat → Nat) (base : Nat) (L : List (List Nat)) (J : Nat → (Nat → Prop) → World → Prop) (sv : Value) (st : List Dl) (i : Nat) (W : World) : Prop where
  good : Good f K T st
  idx : Idx st
  stk : Stk base W sv st
  rem : L.drop i = remS K k st
  le : i ≤ L.length
  j : J i (fun b => sv.ownBlock = some b) W
  low : base ≤ W.heap.size
theorem step_load_in {F : Fence} {n : Nat} {P : Program} {ops : Array Oper} {o : Oper} {a : Act} {w : World} {K : Act → World → Prop} {Q : Exit → Act → World → Prop} {E : Prop} (hgd : o.guard = none) (ty : TypeId) (x : Operand)
    (ho : o.op = .load ty x) (b k : Nat) (hx : a.eval x = .pointer (some ⟨b, k, none⟩)) (cs : List Value) (d : TypeDesc) (hc : w.rangeAt b k cs) (hu : P.underlying ty = some d) (hd : d.isRow = true) (hi : (P.info? ty).map (·.size) = some cs.length)
    (h : K (a.put o.dst (.agg cs.toArray)) w) : if Region.wanted o (yielded ops a.tmps) = true then o.wpIn F n P a w K Q else E := by
  have hw : Region.wanted o (yielded ops a.tmps) = true := by simp [Region.wanted, hgd]
  rw [if_pos hw]
  unfold Oper.wpIn
  refine ⟨?_, ?_⟩
  · simp [Oper.about, ho]
  · rw [Oper.semAt_plain F _ _ (by rw [ho]; intro c hc'; cases hc')]
    unfold execOp
    simp only [ho, hx, Instr.loadAt, Instr.sureAddr, Sem.run_bind, Sem.run_pure, Result.andThen_ok, run_loadVar_mid w b k ty cs d hc hu hd hi]
    exact h
set_option maxRecDepth 100000 in
set_option maxHeartbeats 8000000 in
theorem all_in (m lp X Bf K T ck : Nat) (pk : Option Addr) (k : List Nat) (f : Nat → Nat → Nat) (d0 : Dl) (J : Nat → (Nat → Prop) → World → Prop) (Jx : World → Prop) (W0 : World) (hk : k.length = T) (hk1 : ∀ x ∈ k, 1 ≤ x ∧ x ≤ 6) (hK : K ≤ 5) (hT : T ≤ 5) (hf : Sv k f) (hd0 : d0.Ok K T) (hv0 : d0.v = [])
    (hB : W0.heap[Bf]? = some (.cells (dC d0).toArray 62 (0, 0)))
    (hst : ∀ (i : Nat) (M M' : Nat → Prop) (W W' : World), J i M W → Fr M W W' → (∀ b, M' b → M b ∨ W.heap.size ≤ b) → J i M' W')
    (hat : ∀ (i : Nat) (M : Nat → Prop) (W : World), J i M W → DlAt W X K pk T ck f ∧ IntsAt W pk (up k) ∧ Tab W ∧ ¬ M X ∧ ¬ M 0 ∧ ∀ a o, pk = some ⟨a, o, none⟩ → ¬ M a)
    (hY : ∀ (mm i : Nat) (M : Nat → Prop) (W : World) (v : List Nat) (g bs : Nat), (wd K k d0)[i]? = some v → J i M W → (∀ b, M b → b < bs) → bs ≤ W.heap.size → W0.heap.size ≤ bs → WayAt W bs g K T (rowsN K T v) → YieldAt Fence.wide mm Tryd.prog lp #[.slice (some ⟨g, 0, none⟩) T T] W fun e W' => (∀ b, M b → W'.heap[b]? = W.heap[b]?) ∧ W.heap.size ≤ W'.heap.size ∧ ((e = .returned (.bool true) ∧ J (i + 1) M W') ∨ (e = .returned (.bool false) ∧ Jx W')))
    (h0 : J 0 (fun _ => False) W0) :
    CallsIn Fence.wide (m + 4) Tryd.prog 28 #[.func (.yield lp) #[] #[], .pointer (some ⟨X, 0, none⟩), .pointer (some ⟨Bf, 0, none⟩)] W0 fun e W' => (∃ v, e = .returned v) ∧ ((∃ M, J (wd K k d0).length M W') ∨ Jx W') := by
  subst hk
  obtain ⟨hD0, hI0, hT0, -⟩ := hat 0 _ W0 h0
  have HPU := hid (push_any X K k.length ck pk k f W0.heap.size (.slice none 0 0) [] d0 W0 rfl hK hT hf hD0 hd0 (show Stk W0.heap.size W0 (.slice none 0 0) [] from World.ownsRow_nil _ _ _ _) (by simp) (Nat.le_refl _) hT0)
  have HLD := hid (range_dC hB)
  have HST := hid hst; have HAT := hid hat; have HY := hid hY; have H0 := hid h0; have HF := hid hf; have HK1 := hid hk1; have HD0 := hid hd0
  obtain ⟨L, hL⟩ : ∃ L, wd K k d0 = L := ⟨_, rfl⟩
  have HL := hid hL
  have HV0 := hid hv0
  rw [hL] at HY ⊢
  clear hD0 hI0 hT0 hB hst hat hY h0 hf hd0 hL hk1 hv0
  refine callsIn_of_wp Tryd.func28 rfl trivial ?_ rfl
  simp only [Tryd.ntmps28, List.size_toArray, List.length_cons, List.length_nil, Nat.reduceAdd, Nat.reduceSub, Array.replicate_succ, Array.replicate_zero, List.push_toArray, List.append_toArray, List.nil_append, List.cons_append]
  refine wpIn_wide.2 ?_
  refine wp_seq ?_
  refine wp_region_lit ?_
  refine wpList_step fun KQ hK' => ?_
  refine step_load rfl 62 (.tmp 2) rfl Bf 0 (by rfl) (dC d0) _ HLD.out Tryd.underlying62 rfl size62 ?_
  refine hK' _ _ ?_
  clear hK'
  go_wp2_with fail
  refine HPU.out.mono ?_
  rintro e w1 ⟨v1, rfl, hs1, hf1, ho1⟩
  have hIt : ItSt K k.length k f W0.heap.size L J v1 (pushd f K k.length [] d0) 0 w1 := by
    refine ⟨good_push (fun d hd => absurd hd (by simp)) HD0.out, ?_, hs1, ?_, Nat.zero_le _, HST.out 0 _ _ _ _ H0.out (hf1.mono (fun q hq => by cases hq)) (fun b hb => ?_), hf1.low.size⟩
    · unfold pushd
      split
      · exact Idx.push (fun j hj => absurd hj (by simp)) (Nat.zero_le _)
      · exact fun j hj => absurd hj (by simp)
    · rw [List.drop_zero, push_rem (fun x hx => (HK1.out x hx).1) HF.out HD0.out, HL.out]; simp [remS]
    · rcases ho1 with h | ⟨q, h, hq⟩
      · rw [h] at hb; cases hb
      · rw [h] at hb; have := Option.some.inj hb; exact .inr (by omega)
  have HIT := hid hIt
  clear hIt hs1 hf1 ho1 HPU
  go_wp2_with fail
  refine (wpIn_wide (n := m + 4)).1 (loop_fuel (fun fl a0 wr => ∃ sv st i tm, a0 = { tmps := tm, defers := [] } ∧ Slots lp X Bf sv tm ∧ fl = cost K k.length st ∧ ItSt K k.length k f W0.heap.size L J sv st i wr) (cost K k.length (pushd f K k.length [] d0)) ?_ ?_)
  · exact ⟨v1, _, 0, _, rfl, ⟨rfl, rfl, rfl, rfl, rfl⟩, rfl, HIT.out⟩
  · rintro fl a0 wr ⟨sv, st, i, tm, rfl, hsl, rfl, hit⟩
    obtain ⟨u, rfl⟩ := slots_lit hsl
    clear hsl HIT
    refine wpIn_wide.2 ?_
    have HIT := hid hit
    clear hit
    rcases List.eq_nil_or_concat st with rfl | ⟨st', d, rfl⟩
    · obtain ⟨q, c, rfl⟩ : ∃ q c, sv = .slice q 0 c := by
        rcases HIT.out.stk.2 with ⟨h, _⟩ | ⟨g, cap, cur, h, _⟩
        · exact ⟨none, 0, h⟩
        · exact ⟨_, _, h⟩
      have hi : i = L.length := by
        have h1 := HIT.out.rem
        have h2 := HIT.out.le
        have h3 : L.drop i = [] := h1
        have h4 := List.drop_eq_nil_iff.1 h3
        omega
      go_wp2_with fail
      refine bodyPost_end (results_none rfl _ _ _) rfl ?_
      exact ⟨⟨_, rfl⟩, .inl ⟨_, by rw [← hi]; exact HIT.out.j⟩⟩
    · rw [List.concat_eq_append] at HIT ⊢
      obtain ⟨q, n, c, rfl⟩ : ∃ q n c, sv = .slice q n c := by
        rcases HIT.out.stk.2 with ⟨h, _⟩ | ⟨g, cap, cur, h, _⟩
        · exact ⟨none, 0, 0, h⟩
        · exact ⟨_, _, _, h⟩
      obtain ⟨hn, hnc, hcm, g, rfl, hg, hrg, hst'⟩ := HIT.out.stk.pop
      obtain ⟨hix, hixl⟩ := HIT.out.idx.pop
      obtain ⟨hdo, hda⟩ := HIT.out.good d (by simp)
      have hgd : Good f K k.length st' := fun x hx => HIT.out.good x (by simp [hx])
      have hmax : maxLen = 9223372036854775807 := rfl
      have hd25 : d.v.length ≤ 25 := by
        have h1 := hdo.made
        have h2 : K * k.length ≤ 5 * 5 := Nat.mul_le_mul hK hT
        omega
      subst hn
      obtain ⟨s, hs⟩ : ∃ s, st'.length = s := ⟨_, rfl⟩
      rw [hs] at hnc hrg hst' hixl HIT ⊢
      have HRG := hid hrg; have HS' := hid hst'; have HIX := hid hix; have HIXL := hid hixl; have HDO := hid hdo; have HDA := hid hda; have HGD := hid hgd; have HSL := hid hs
      have hs176 : s ≤ 175 := by omega
      have hs1 : (s : Int) < (s : Int) + 1 := by omega
      clear hrg hst' hix hixl hdo hda hgd hs hg
      go_upto_region 3 with (fail)
      refine wp_region_lit ?_
      iterate 3
        refine wpList_step fun KQ hK' => ?_
        have HKK := hid hK'
        clear hK'
        go_simp
        refine HKK.out _ _ ?_
        clear HKK
      refine wpList_step fun KQ hK' => ?_
      refine step_load rfl 62 (.tmp 17) rfl g (s * 32) (by rfl) (dC d) _ HRG.out Tryd.underlying62 rfl size62 ?_
      refine hK' _ _ ?_
      clear hK'
      refine wpList_step fun KQ hK' => ?_
      have HKK := hid hK'
      clear hK'
      go_simp
      refine HKK.out _ _ ?_
      clear HKK
      refine wpList_step fun KQ hK' => ?_
      refine step_store_new rfl 62 (.tmp 6) (.tmp 18) rfl _ (dC d).toArray (by rfl) (by rfl) (by rw [List.size_toArray]; exact size62) (by show 32 = (dC d).toArray.size; rw [List.size_toArray, dC_len]) (all_oneCell_toArray (dC_one d)) ?_
      refine hK' _ _ ?_
      clear hK'
      obtain ⟨W1, hW1⟩ : ∃ W1, wr.alloc (.cells (dC d).toArray 62) = W1 := ⟨_, rfl⟩
      rw [hW1]
      have hbW : Below wr.heap.size wr W1 := by rw [← hW1]; exact alloc_below0 _ _
      have hN1 : W1.heap[wr.heap.size]? = some (.cells (dC d).toArray 62 (0, 0)) := by rw [← hW1]; exact World.alloc_heap_new wr _
      have hj1 : J i (fun b => (Value.slice (some ⟨g, 0, none⟩) s c).ownBlock = some b) W1 := HST.out i _ _ _ _ HIT.out.j (Fr.of_below hbW) (fun b hb => .inl hb)
      obtain ⟨hD1, hI1, hT1, hM1, hM2, hM3⟩ := HAT.out i _ W1 hj1
      have h25 := cells_box32 hN1 (dC_made d)
      have hx0 := hD1.kinds; have hx1 := hD1.often
      obtain ⟨p, hp⟩ : ∃ p, d.v.length = p := ⟨_, rfl⟩
      rw [hp] at h25 hd25
      obtain ⟨KT, hKT⟩ : ∃ KT, K * k.length = KT := ⟨_, rfl⟩
      have hKT25 : KT ≤ 25 := by rw [← hKT]; exact Nat.mul_le_mul hK hT
      have hKT1 : (K : Int) * (k.length : Int) = (KT : Int) := by rw [← hKT]; simp
      have w1' : IntKind.i64.wrap (KT : Int) = (KT : Int) := IntWalk.i64_in _ (by constructor <;> omega)
      have HLD1 := hid (range_dC hN1)
      have HS1 := hid (HS'.out.below hbW)
      have HJ1 := hid hj1; have HD1 := hid hD1; have HI1 := hid hI1; have HT1 := hid hT1; have HM1 := hid hM1; have HM2 := hid hM2; have HM3 := hid hM3; have HBW := hid hbW; have HP := hid hp; have HKT := hid hKT
      clear hW1 hbW hN1 hj1 hD1 hI1 hT1 hM1 hM2 hM3 hp hKT
      by_cases hlt : p < KT
      · have hltz : (p : Int) < (KT : Int) := by omega
        have HNX := hid (next_any X K k.length ck pk k f W0.heap.size (.slice (some ⟨g, 0, none⟩) s c) st' d W1 rfl HK1.out hK hT HF.out HD1.out HI1.out HDO.out (by rw [HP.out, HKT.out]; exact hlt) HS1.out (by have := HSL.out; omega) (Nat.le_trans HIT.out.low HBW.out.size) HT1.out (fun q hq => ⟨fun e => HM1.out (e ▸ hq), fun e => HM2.out (e ▸ hq), fun a o e e2 => HM3.out a o e (e2 ▸ hq)⟩))
        go_upto_region 6 with (fail)
        refine wp_region_lit ?_
        refine wpList_step fun KQ hK' => ?_
        have HKK := hid hK'
        clear hK'
        go_simp
        refine HKK.out _ _ ?_
        clear HKK
        refine wpList_step fun KQ hK' => ?_
        refine step_load rfl 62 (.tmp 6) rfl wr.heap.size 0 (by rfl) (dC d) _ HLD1.out Tryd.underlying62 rfl size62 ?_
        refine hK' _ _ ?_
        clear hK'
        go_wp2_with fail
        refine HNX.out.mono ?_
        rintro e w5 ⟨v5, rfl, h5, f5, o5⟩
        have hN : ∀ n, (nextD K k d n).Ok K k.length := fun n => next_ok HDO.out (by rw [HP.out, HKT.out]; exact hlt) hT n
        have htop : topN K k d ≤ 6 := Nat.le_trans (Nat.div_le_self _ _) (HDO.out.six _)
        have hit5 : ItSt K k.length k f W0.heap.size L J v5 (pushs f K k.length k st' d (topN K k d + 1)) i w5 := by
          refine ⟨good_pushs HGD.out hN _, idx_pushs HIX.out (by rw [HSL.out]; exact HIXL.out) _ (by omega), h5, ?_, HIT.out.le, HST.out i _ _ _ _ HJ1.out f5 (fun b hb => ?_), Nat.le_trans HIT.out.low (Nat.le_trans HBW.out.size f5.low.size)⟩
          · rw [HIT.out.rem, step_rem (fun x hx => (HK1.out x hx).1) HF.out (by rw [HP.out, HKT.out]; exact hlt) hN]
          · rcases o5 with h | ⟨q, h, hq⟩
            · exact .inl (h ▸ hb)
            · rw [h] at hb; have := Option.some.inj hb; exact .inr (by omega)
        have hcost := cost_step (f := f) (k := k) (st := st') (d := d) (K := K) (T := k.length) (by rw [HP.out, HKT.out]; exact hlt) htop
        have HIT5 := hid hit5; have HCO := hid hcost
        clear h5 f5 o5 HNX hN htop hit5 hcost
        go_wp2_with fail
        exact ⟨_, HCO.out, v5, _, i, _, rfl, ⟨rfl, rfl, rfl, rfl, rfl⟩, rfl, HIT5.out⟩
      · have hltz : ¬ (p : Int) < (KT : Int) := by omega
        have HTO := hid (told_any X K k.length ck pk f d W1 hK hT HD1.out (by rw [HP.out, HKT.out]; have := HDO.out.made; rw [HP.out, HKT.out] at this; omega))
        go_upto_region 7 with (fail)
        refine (wpIn_wide (n := 2)).1 ?_
        refine wpIn_region_lit ?_
        refine wpListIn_step fun KQ hK' => ?_
        have HKK := hid hK'
        clear hK'
        go_simp
        refine HKK.out _ _ ?_
        clear HKK
        refine wpListIn_step fun KQ hK' => ?_
        refine step_load_in rfl 62 (.tmp 6) rfl wr.heap.size 0 (by rfl) (dC d) _ HLD1.out Tryd.underlying62 rfl size62 ?_
        refine hK' _ _ ?_
        clear hK'
        gi_wp2_with fail
        refine ⟨trivial, ?_⟩
        refine (callsIn_wide.2 HTO.out).mono ?_
        rintro e w6 ⟨gw, rfl, hway, hb6⟩
        have hend := wd_end HF.out HDO.out (by rw [HP.out, HKT.out]; have := HDO.out.made; rw [HP.out, HKT.out] at this; omega) HDA.out
        have hrem := HIT.out.rem
        rw [rem_app, hend] at hrem
        have hil : i < L.length := by
          have h1 := congrArg List.length hrem
          simp at h1; omega
        have hgi : L[i]? = some d.v := by
          rw [← List.head?_drop, hrem]; rfl
        have hrem2 : L.drop (i + 1) = remS K k st' := by
          rw [← List.tail_drop, hrem]; rfl
        have hj6 : J i (fun b => (Value.slice (some ⟨g, 0, none⟩) s c).ownBlock = some b) w6 := HST.out i _ _ _ _ HJ1.out (Fr.of_below hb6) (fun b hb => .inl hb)
        have hM : ∀ b, (Value.slice (some ⟨g, 0, none⟩) s c).ownBlock = some b → b < W1.heap.size := fun b hb => (HS1.out.lt hb).1
        obtain ⟨fn, tmps, assign, bd, hy, hR⟩ := HY.out 1 i _ w6 d.v gw W1.heap.size hgi hj6 hM hb6.size (Nat.le_trans HIT.out.low HBW.out.size) hway
        have HR := hid hR; have HB6 := hid hb6; have HREM := hid hrem2; have HIL := hid hil
        have HMS := hid hM
        clear hR hb6 hrem hrem2 hil hgi hj6 hM hend hway HTO
        gi_wp2_with fail
        refine HR.out.mono ?_
        intro ee W3 h4
        obtain ⟨bv, rfl, hkp, hres⟩ := res_bv ⟨(⟨h4.1, h4.2.1⟩ : _ ∧ _), h4.2.2⟩
        clear h4
        have HKP := hid hkp; have HRES := hid hres
        clear hkp hres
        cases bv
        · gi_wp2_with fail
          go_wp2_with fail
          (try simp only [Exit.inBlock, Exit.then])
          refine bodyPost_ret (results_none rfl _ _ _) rfl ?_
          refine ⟨⟨_, rfl⟩, .inr ?_⟩
          rcases HRES.out with ⟨h, _⟩ | ⟨_, hjx⟩
          · cases h
          · exact hjx
        · gi_wp2_with fail
          have hj9 : J (i + 1) (fun b => (Value.slice (some ⟨g, 0, none⟩) s c).ownBlock = some b) W3 := by
            rcases HRES.out with ⟨_, hj⟩ | ⟨h, _⟩
            · exact hj
            · cases h
          have hit9 : ItSt K k.length k f W0.heap.size L J (.slice (some ⟨g, 0, none⟩) s c) st' (i + 1) W3 :=
            ⟨HGD.out, HIX.out, HS1.out.keep (fun q hq => (HKP.out.1 q hq).trans (HB6.out.block q (HMS.out q hq))), HREM.out, HIL.out, hj9, Nat.le_trans HIT.out.low (Nat.le_trans HBW.out.size (Nat.le_trans HB6.out.size HKP.out.2))⟩
          have hcost : cost K k.length st' < cost K k.length (st' ++ [d]) := by
            rw [cost_app]; have := Nat.pow_pos (n := K * k.length - d.v.length) (show 0 < 8 by omega); omega
          have HIT9 := hid hit9; have HCO := hid hcost
          clear hit9 hcost hj9
          go_wp2_with fail
          exact ⟨_, HCO.out, _, st', i + 1, _, rfl, ⟨rfl, rfl, rfl, rfl, rfl⟩, rfl, HIT9.out⟩
end Go.Proofs.YtdpdpjfnanjmgaaDoor
