/- Way of the program. -/
import Derived.Test.YtplekhfnidhcoaaUnH
namespace Go.Proofs.Ytplekhfnidhcoaa
open Go.RowKit Go.Shelf Go.Deep

attribute [local go_sem] Oper.semAt_some

theorem wayO_neg {us : List Int} {vs : List ByteArray} {k : Int} (h : k < 0) : wayO us vs k = ([], false) := by unfold wayO; rw [if_pos h]
theorem way_step {us : List Int} {vs : List ByteArray} {K R j : Nat} {acc : List Bl} {x : ByteArray} (hj : j < vs.reverse.length) (h : wayR us vs.reverse K = wayR us (vs.reverse.drop j) R ++ acc.reverse) (hx : vs.reverse[j] = x) :
    (R % (us.length + 1) = 0 → wayR us vs.reverse K = wayR us (vs.reverse.drop (j + 1)) (R / (us.length + 1)) ++ acc.reverse) ∧
    (R % (us.length + 1) ≠ 0 → wayR us vs.reverse K = wayR us (vs.reverse.drop (j + 1)) (R / (us.length + 1)) ++ (acc ++ [(x, us.getD (R % (us.length + 1) - 1) 0)]).reverse) := by
  rw [List.drop_eq_getElem_cons hj, hx, wayR_step] at h
  refine ⟨fun h0 => ?_, fun h0 => ?_⟩
  · rw [if_pos h0, List.append_nil] at h
    exact h
  · rw [if_neg h0] at h
    rw [h]
    simp
theorem own_snoc {W : World} {base g cap : Nat} {l : List Bl} {x : ByteArray} {z : Int} (h : W.ownsRow base 44 4 (.slice (some ⟨g, 0, none⟩) (l.length + 1) cap) (l.length + 1) (blAll l ++ blC (x, z))) : BOwn W base (.slice (some ⟨g, 0, none⟩) (l.length + 1) cap) (l ++ [(x, z)]) := by
  unfold BOwn
  rw [List.length_append, blAll_snoc]
  exact h
theorem way_start (w : World) (us : List Int) (pu : Option Addr) (cu : Nat) (pv : Option Addr) (n cv : Nat) (k : Int) (r : Loop) (W0 : World) (hW0 : W0 = ((((w.alloc (.cells #[.slice pu us.length cu] 29)).alloc (.cells #[.slice none 0 0] 34)).alloc (.cells #[.int .i64 k] 3)).alloc (.cells #[.int .i64 ((us.length : Int) + 1)] 3)).alloc (.cells #[.slice pv n cv] 33)) :
    W0.heap.size = w.heap.size + 5 ∧ WaySt w.heap.size w us pu cu pv n cv W0.heap.size ((W0.alloc (.deferred (some []))).alloc (.loop r)) (.slice none 0 0) [] k ∧ ((W0.alloc (.deferred (some []))).alloc (.loop r)).heap[W0.heap.size + 1]? = some (.loop r) := by
  have hs : W0.heap.size = w.heap.size + 5 := by rw [hW0]; simp only [World.size_alloc]
  have b1 := Box.new w 29 #[.slice pu us.length cu]
  have b2 := Box.new (w.alloc (.cells #[.slice pu us.length cu] 29)) 34 #[.slice none 0 0]
  have b3 := Box.new ((w.alloc (.cells #[.slice pu us.length cu] 29)).alloc (.cells #[.slice none 0 0] 34)) 3 #[.int .i64 k]
  have b4 := Box.new (((w.alloc (.cells #[.slice pu us.length cu] 29)).alloc (.cells #[.slice none 0 0] 34)).alloc (.cells #[.int .i64 k] 3)) 3 #[.int .i64 ((us.length : Int) + 1)]
  have b5 := Box.new ((((w.alloc (.cells #[.slice pu us.length cu] 29)).alloc (.cells #[.slice none 0 0] 34)).alloc (.cells #[.int .i64 k] 3)).alloc (.cells #[.int .i64 ((us.length : Int) + 1)] 3)) 33 #[.slice pv n cv]
  have c1 := (((b1.over (.cells #[.slice none 0 0] 34)).over (.cells #[.int .i64 k] 3)).over (.cells #[.int .i64 ((us.length : Int) + 1)] 3)).over (.cells #[.slice pv n cv] 33)
  have c2 := ((b2.over (.cells #[.int .i64 k] 3)).over (.cells #[.int .i64 ((us.length : Int) + 1)] 3)).over (.cells #[.slice pv n cv] 33)
  have c3 := (b3.over (.cells #[.int .i64 ((us.length : Int) + 1)] 3)).over (.cells #[.slice pv n cv] 33)
  have c4 := b4.over (.cells #[.slice pv n cv] 33)
  have low : Below w.heap.size w W0 := by rw [hW0]; exact (((((Below.refl _ w).alloc (Nat.le_refl _) _).alloc (by simp only [World.size_alloc]; omega) _).alloc (by simp only [World.size_alloc]; omega) _).alloc (by simp only [World.size_alloc]; omega) _).alloc (by simp only [World.size_alloc]; omega) _
  rw [← hW0] at b5 c1 c2 c3 c4
  simp only [World.size_alloc] at b5 c2 c3 c4
  have hD : (W0.alloc (.deferred (some []))).heap[W0.heap.size]? = some (.deferred (some [])) := World.alloc_heap_new W0 _
  have hDs : (W0.alloc (.deferred (some []))).heap.size = W0.heap.size + 1 := World.size_alloc _ _
  have hL := World.alloc_heap_new (W0.alloc (.deferred (some []))) (.loop r)
  rw [hDs] at hL
  refine ⟨hs, ⟨⟨(c1.over _).over _, (c4.over _).over _, (b5.over _).over _, (Below.heap_alloc _ _ _ (by rw [hDs]; omega)).trans hD, (low.alloc low.size _).alloc (by rw [hDs]; have := low.size; omega) _⟩, (c2.over _).over _, (c3.over _).over _, bOwn_nil _ _⟩, hL⟩
/-- Behind j names. -/
def WayJ (Y : Nat) (w : World) (us : List Int) (pu : Option Addr) (cu : Nat) (pv : Option Addr) (n cv D : Nat) (vs : List ByteArray) (K nu : Nat) (r : Loop) (j : Nat) (W : World) : Prop :=
  W.heap[D + 1]? = some (.loop r) ∧ ∃ v acc, WaySt Y w us pu cu pv n cv D W v acc ((K / (nu + 1) ^ j : Nat) : Int) ∧ wayR us vs.reverse K = wayR us (vs.reverse.drop j) (K / (nu + 1) ^ j) ++ acc.reverse
/-- Left early. -/
def WayX (Y : Nat) (w : World) (us : List Int) (pu : Option Addr) (cu : Nat) (pv : Option Addr) (n cv D : Nat) (vs : List ByteArray) (K nu : Nat) (r : Loop) (W : World) : Prop :=
  W.heap[D + 1]? = some (.loop { r with state := .done, pending := some (.exit 0) }) ∧ ∃ v acc, WaySt Y w us pu cu pv n cv D W v acc 0 ∧ wayR us vs.reverse K = acc.reverse ∧ K / (nu + 1) ^ n = 0
theorem below_put (W : World) {l n : Nat} (h : n ≤ l) (o : Obj) : Below n W (W.putObj l o) :=
  ⟨rfl, rfl, rfl, by rw [show (W.putObj l o).heap.size = W.heap.size by simp [World.putObj]]; exact Nat.le_refl _, fun k hk => World.putObj_heap_other (by omega)⟩
theorem reverse_nil (w : World) : Calls Try.prog 30 #[.slice none 0 0] w fun e w' => (∃ v, e = .returned v) ∧ w' = w := by
  go_enter Try.func30, Try.ntmps30
  go_wp2_with fail
  go_loopw [2, 3] (fun iv jv wr => iv = .int .i64 0 ∧ jv = .int .i64 (-1) ∧ wr = w) (fun _ _ _ => 0)
  case atStart => exact ⟨rfl, rfl, rfl⟩
  case round =>
    obtain ⟨rfl, rfl, rfl⟩ := hrel
    go_wp2
    refine bodyPost_end (results_none rfl _ _ _) rfl ?_
    exact ⟨⟨_, rfl⟩, rfl⟩
theorem Try.info44 : (Try.prog.info? 44).map (fun i => (i.zero, i.size, i.bytes)) = some (some (.agg #[.string ⟨#[]⟩, .string ⟨#[]⟩, .int .i64 0, .slice none 0 0]), 4, 64) := by kernel_rfl
set_option maxRecDepth 100000 in
set_option maxHeartbeats 8000000 in
theorem way_any (pu : Option Addr) (cu : Nat) (us : List Int) (pv : Option Addr) (cv : Nat) (vs : List ByteArray) (k : Int) (w : World) (hU : IntsAt w pu us) (hV : StrsAt w pv vs) (hu : us.length ≤ 17592186044416) (hv : vs.length ≤ 17592186044416) (hk : Is64 k) :
    Calls Try.prog 13 #[.slice pu us.length cu, .slice pv vs.length cv, .int .i64 k] w fun e w' => ∃ v, e = .returned (.tuple #[v, .bool (wayO us vs k).2]) ∧ BOwn w' w.heap.size v (wayO us vs k).1 ∧ Below w.heap.size w w' := by
  refine (callsIn_wide (n := 6)).1 ?_
  have h1 : 1 ≤ 6 := by omega
  obtain ⟨nu, hNU⟩ : ∃ n, us.length = n := ⟨_, rfl⟩
  obtain ⟨n, hN⟩ : ∃ n, vs.length = n := ⟨_, rfl⟩
  have HU := hid hU; have HV := hid hV; have HNU := hid hNU; have HN := hid hN; have HK := hid hk
  rw [hNU] at hu ⊢
  rw [hN] at hv ⊢
  clear hU hV hNU hN
  obtain ⟨hk1, hk2⟩ := hk
  have hBase := hid (base_any pu nu cu hu)
  have hmix : Try.prog.follows .mixedOrders = true := by kernel_rfl
  by_cases hneg : k < 0
  · rw [wayO_neg hneg]
    refine callsIn_of_wp_marks Try.func13 rfl trivial ?_ rfl
    simp only [Try.ntmps13, List.size_toArray, List.length_cons, List.length_nil, Nat.reduceAdd, Nat.reduceSub, Array.replicate_succ, Array.replicate_zero, List.push_toArray, List.append_toArray, List.nil_append, List.cons_append]
    gi_wp2_with fail
    exact ⟨_, results_tmp2 rfl _ _ _, _, rfl, bOwn_nil _ _, alloc_below0 _ _⟩
  · obtain ⟨K, rfl⟩ : ∃ K : Nat, k = K := ⟨k.toNat, by omega⟩
    refine callsIn_of_wp_marks Try.func13 rfl trivial ?_ rfl
    simp only [Try.ntmps13, List.size_toArray, List.length_cons, List.length_nil, Nat.reduceAdd, Nat.reduceSub, Array.replicate_succ, Array.replicate_zero, List.push_toArray, List.append_toArray, List.nil_append, List.cons_append]
    gi_wp2_with fail
    refine ⟨trivial, ?_⟩
    refine (callsIn_wide.2 (hBase.out _)).mono ?_
    rintro e w' ⟨rfl, rfl⟩
    gi_wp2_with fail
    refine ⟨trivial, ?_⟩
    refine (callsIn_wide.2 (backward_any pv n cv _)).mono ?_
    rintro e w' ⟨rfl, rfl⟩
    gi_wp2
    have HST := hid (fun r => way_start w us pu cu pv n cv (K : Int) r _ rfl)
    rw [HNU.out] at HST
    generalize (((((w.alloc (.cells #[.slice pu nu cu] 29)).alloc (.cells #[.slice none 0 0] 34)).alloc (.cells #[.int .i64 (K : Int)] 3)).alloc (.cells #[.int .i64 ((nu : Int) + 1)] 3)).alloc (.cells #[.slice pv n cv] 33)) = W0 at HST ⊢
    have hs0 := (HST.out default).1
    have HSI := hid hs0
    generalize hY : w.heap.size = Y at HST hs0 HSI ⊢
    have HY := hid hY
    clear hY hs0
    refine range_law rfl h1 (gf := 44) (lb := #[.pointer (some ⟨Y + 1 + 1 + 1 + 1, 0, none⟩)]) rfl trivial (enters_of Try.func44 (by kernel_rfl) rfl) ?_
    intro r hr1 hr2 hr3 hr4 hr5 hr6 hr7
    obtain ⟨hsz9, hS0, hL0⟩ := HST.out r
    clear hsz9
    have hlenR : vs.reverse.length = n := by rw [List.length_reverse, HN.out]
    refine (back_in (6 - 1) (by omega) (W0.heap.size + 1) (Y + 4) pv n cv hv
      (WayJ Y w us pu cu pv n cv W0.heap.size vs K nu r) (WayX Y w us pu cu pv n cv W0.heap.size vs K nu r)
      ?_ ?_ _ hS0.k.y4 ⟨hL0, _, [], by rw [Nat.pow_zero, Nat.div_one]; exact hS0, by rw [Nat.pow_zero, Nat.div_one]; simp⟩).mono ?_
    · rintro j W hj ⟨_, v, acc, hst, _⟩
      obtain ⟨b, o, e1, e2⟩ := HV.out.cells (n - 1 - j) (by have := HN.out; omega)
      exact ⟨hst.k.y4, b, o, _, e1, by rw [hst.k.low.cell (p := ⟨b, o + (n - 1 - j), none⟩) (by rw [← HY.out]; exact World.block_lt_of_cell? w _ e2)]; exact e2⟩
    · rintro j W x g o hj ⟨hL, v, acc, hst, hway⟩ hpv hcx
      have hjr : j < vs.reverse.length := by rw [hlenR]; exact hj
      have hx : vs.reverse[j] = x := by
        obtain ⟨b, o', e1, e2⟩ := HV.out.cells (n - 1 - j) (by have := HN.out; omega)
        rw [hpv] at e1
        cases e1
        rw [hst.k.low.cell (p := ⟨g, o + (n - 1 - j), none⟩) (by rw [← HY.out]; exact World.block_lt_of_cell? w _ e2), e2] at hcx
        injection hcx with hcx
        injection hcx with hcx
        rw [← hcx]
        simp only [List.getElem_reverse, HN.out]
      obtain ⟨R, hR⟩ : ∃ R, K / (nu + 1) ^ j = R := ⟨_, rfl⟩
      obtain ⟨R2, hR2⟩ : ∃ R2, R / (nu + 1) = R2 := ⟨_, rfl⟩
      have hnext : K / (nu + 1) ^ (j + 1) = R2 := by rw [pow_next, hR, hR2]
      have hRK : R ≤ K := by rw [← hR]; exact Nat.div_le_self _ _
      have hR2K : R2 ≤ R := by rw [← hR2]; exact Nat.div_le_self _ _
      rw [hR] at hst hway
      have hstep := way_step hjr hway hx
      rw [HNU.out] at hstep
      suffices key : ∀ RR : Ending → World → Prop, Hid (∀ W', WayJ Y w us pu cu pv n cv W0.heap.size vs K nu r (j + 1) W' → RR (.returned (.bool true)) W') → Hid (∀ W', WayX Y w us pu cu pv n cv W0.heap.size vs K nu r W' → RR (.returned (.bool false)) W') → YieldAt Fence.wide (6 - 1 - 1) Try.prog (W0.heap.size + 1) #[.int .i64 ((n - 1 - j : Nat) : Int), .string x] W RR from key _ (hid fun W' h => .inl ⟨rfl, h⟩) (hid fun W' h => .inr ⟨rfl, h⟩)
      intro RR HRT HRF
      refine yield_by hr5 hr6 hr3 hr4 hL hr1 rfl hr7 ?_
      have HNX := hid hnext; have HL := hid hL; have HSP := hid hstep; have HWY := hid hway; have HST1 := hid hst; have HRR := hid hR; have HR2 := hid hR2
      clear hr3 hr4 hr5 hr6 hS0 hL0 hL hst hway hstep hnext hR hR2 hx hpv hcx hjr
      simp only [List.zip_toArray, List.zip_cons_cons, List.zip_nil_right, List.foldl_toArray, List.foldl_cons, List.foldl_nil, List.setIfInBounds_toArray, List.set_cons_succ, List.set_cons_zero]
      gi_wp2
      refine ⟨HL.out, ?_⟩
      have hsz := HSI.out
      have hlt : W0.heap.size + 1 < W.heap.size := (Array.getElem?_eq_some_iff.1 HL.out).1
      have HST2 := hid (HST1.out.put HL.out (by omega) (by omega) (.loop { r with state := .busy }))
      have HL2 : Hid ((W.putObj (W0.heap.size + 1) (.loop { r with state := .busy })).heap[W0.heap.size + 1]? = some (.loop { r with state := .busy })) := hid (World.putObj_heap_same hlt)
      clear HST1 HL
      generalize W.putObj (W0.heap.size + 1) (.loop { r with state := .busy }) = W2 at HST2 HL2 ⊢
      have hLne := HST2.out.row.ne HL2.out (fun cur e => by cases e)
      have HLN := hid hLne
      clear hLne hlt
      have y2 : W2.cell? ⟨Y + 1 + 1, 0, none⟩ = some (.int .i64 (R : Int)) := HST2.out.y2.c 0
      have y3 : W2.cell? ⟨Y + 1 + 1 + 1, 0, none⟩ = some (.int .i64 ((nu : Int) + 1)) := by rw [← HNU.out]; exact HST2.out.k.y3.c 0
      by_cases hR0 : R = 0
      · subst hR0
        gi_wp2
        have hst3 := HST2.out.put HL2.out (by omega) (by omega) (.loop { r with state := .done, pending := some (.exit 0) })
        refine ⟨HL2.out, HRF.out _ ⟨World.putObj_heap_same (Array.getElem?_eq_some_iff.1 HL2.out).1, v, acc, hst3, ?_, ?_⟩⟩
        · rw [HWY.out, wayR_zero, List.nil_append]
        · have h9 : n = j + (n - j) := by omega
          rw [h9, Nat.pow_add, ← Nat.div_div_eq_div_mul, HRR.out, Nat.zero_div]
      · have hRz : ¬ ((R : Int) = 0) := by omega
        have hRb : ((R : Int) == 0) = false := beq_eq_false_iff_ne.2 hRz
        obtain ⟨d0, hd0⟩ : ∃ d, R % (nu + 1) = d := ⟨_, rfl⟩
        have hd1 : d0 < nu + 1 := by rw [← hd0]; exact Nat.mod_lt _ (by omega)
        obtain ⟨Ri, hRi⟩ : ∃ Ri : Int, (R : Int) = Ri := ⟨_, rfl⟩
        obtain ⟨B, hB⟩ : ∃ B : Int, (nu : Int) + 1 = B := ⟨_, rfl⟩
        obtain ⟨di, hdi⟩ : ∃ di : Int, (d0 : Int) = di := ⟨_, rfl⟩
        obtain ⟨Q, hQ⟩ : ∃ Q : Int, (R2 : Int) = Q := ⟨_, rfl⟩
        have hrem : Ri.tmod B = di := by rw [← hRi, ← hB, ← hdi, rem_nat, hd0]
        have hquo : Ri.tdiv B = Q := by rw [← hRi, ← hB, ← hQ, quo_nat, HR2.out]
        have e1 : wrap64 di = di := IntWalk.wrap64_in _ (by constructor <;> omega)
        have e2 : wrap64 Q = Q := IntWalk.wrap64_in _ (by constructor <;> omega)
        have hB0 : B ≠ 0 := by omega
        have hB1 : (B == 0) = false := beq_eq_false_iff_ne.2 hB0
        rw [hRi] at hRz hRb y2
        rw [hB] at y3
        have HRI := hid hRi; have HBI := hid hB; have HDI := hid hdi; have HQI := hid hQ
        clear hRi hB hQ
        have HSP2 := hid (show (d0 = 0 → wayR us vs.reverse K = wayR us (vs.reverse.drop (j + 1)) R2 ++ acc.reverse) ∧ (d0 ≠ 0 → wayR us vs.reverse K = wayR us (vs.reverse.drop (j + 1)) R2 ++ (acc ++ [(x, us.getD (d0 - 1) 0)]).reverse) by
          have := HSP.out
          rw [hd0, HR2.out] at this
          exact this)
        have HD0 := hid hd0
        clear hd0
        rcases Nat.eq_zero_or_pos d0 with hz | hz
        · have f2 : W2.frozen? ⟨Y + 1 + 1, 0, none⟩ = false := HST2.out.y2.f 0
          have hle0 : di ≤ 0 := by omega
          have HZ := hid hz
          clear hlenR hsz hd1 hz hdi
          gi_wp2
          have hsz := HSI.out
          rw [← HQI.out]
          have hst4 := HST2.out.rest (by omega) (R2 : Int)
          have hL4 : (W2.setCell ⟨Y + 2, 0, none⟩ (.int .i64 (R2 : Int))).heap[W0.heap.size + 1]? = some (.loop { r with state := .busy }) := (set_far (by omega) _).trans HL2.out
          have hst5 := hst4.put hL4 (by omega) (by omega) (.loop { r with state := .ready, pending := none })
          refine ⟨hL4, HRT.out _ ⟨?_, v, acc, ?_, ?_⟩⟩
          · rw [loop_again hr1 hr2]; exact World.putObj_heap_same (Array.getElem?_eq_some_iff.1 hL4).1
          · rw [HNX.out]; exact hst5
          · rw [HNX.out]; exact HSP2.out.1 HZ.out
        · obtain ⟨d, rfl⟩ : ∃ d, d0 = d + 1 := ⟨d0 - 1, by omega⟩
          have hdn : d < nu := by omega
          obtain ⟨bu, ou, hpu, hcu⟩ := HU.out.cells d (by rw [HNU.out]; exact hdn)
          have hz2 : us.getD d 0 = us[d]'(by rw [HNU.out]; exact hdn) := by simp [show d < us.length by rw [HNU.out]; exact hdn]
          have hway2 := HSP2.out.2 (by omega)
          rw [show d + 1 - 1 = d by omega, hz2] at hway2
          generalize us[d]'(by rw [HNU.out]; exact hdn) = z at hcu hway2
          subst hpu
          have HW2 := hid hway2
          have hbu : bu < Y := by rw [← HY.out]; exact World.block_lt_of_cell? w _ hcu
          have hcu2 : W2.cell? ⟨bu, ou + d, none⟩ = some (.int .i64 z) := by rw [HST2.out.k.low.cell (p := ⟨bu, ou + d, none⟩) hbu]; exact hcu
          have HAL : Hid (acc.length ≤ 62) := hid (by
            have h5 := wayR_small us vs.reverse K (by omega)
            rw [hway2] at h5
            simp only [List.length_append, List.length_reverse, List.length_cons, List.length_nil] at h5
            omega)
          have hN0 := HST2.out.row.ne HST2.out.k.y0 (fun cur e => by injection e with _ e; exact absurd e (by decide))
          have HN1 := hid (HST2.out.row.ne HST2.out.y1 (fun cur e => by injection e with _ e; exact absurd e (by decide)))
          have HNb : Hid (v.ownBlock ≠ some bu) := hid fun e => by have := (HST2.out.row.ge e).1; omega
          have HYW : Hid (Y ≤ W2.heap.size) := hid (Nat.le_trans (by omega) (Nat.le_of_lt HST2.out.k.y4.lt))
          have HSS : Hid (∀ V, Fr (fun q => v.ownBlock = some q) W2 V → V.cell? ⟨Y, 0, none⟩ = some (.slice (some ⟨bu, ou, none⟩) nu cu) ∧ V.cell? ⟨bu, ou + d, none⟩ = some (.int .i64 z)) := hid (fun V hV => ⟨by rw [← HNU.out]; exact (HST2.out.k.y0.fr hV hN0).c 0, hV.cell hcu2 HNb.out⟩)
          have HSX : Hid (∀ V, Fr (fun q => v.ownBlock = some q) W2 V → ∀ u : Value, (V.setCell ⟨Y + 1, 0, none⟩ u).cell? ⟨Y, 0, none⟩ = some (.slice (some ⟨bu, ou, none⟩) nu cu) ∧ (V.setCell ⟨Y + 1, 0, none⟩ u).cell? ⟨bu, ou + d, none⟩ = some (.int .i64 z)) := hid (fun V hV u => ⟨by rw [← HNU.out]; exact ((HST2.out.k.y0.fr hV hN0).far (by omega) 0 u).c 0, (cell_same (set_far (show bu ≠ Y + 1 by omega) u)).trans (hV.cell hcu2 HNb.out)⟩)
          have e4 : di - 1 = (d : Int) := by omega
          have hdle : di ≤ 17592186044416 := by omega
          have hdz : (d : Int) < (nu : Int) := by omega
          have hdp : 0 < di := by omega
          clear hway2 hcu hz2 hN0 HSP HSP2 HWY hdi
          obtain ⟨i0, hi, hz1, hz2, hz3⟩ := info_parts Try.info44
          gi_wp2_with fail
          refine wpIn_mono (Q := fun e a' w' => e = .normal ∧ (∃ u29 u30 u31 u32 u33 u34 u35 u36 u37 u38 u39 u40, a' = { tmps := #[.slice (some ⟨bu, ou, none⟩) nu cu, .slice pv n cv, .int .i64 (K : Int), .pointer (some ⟨Y, 0, none⟩), undef, undef, .slice none 0 0, .bool false, .pointer (some ⟨Y + 1, 0, none⟩), .pointer (some ⟨Y + 1 + 1, 0, none⟩), .pointer (some ⟨Y + 1 + 1 + 1, 0, none⟩), undef, .string x, .int .i64 di, .int .i64 (K : Int), .bool false, .int .i64 (K : Int), .slice (some ⟨bu, ou, none⟩) nu cu, .int .i64 ((nu : Int) + 1), .slice pv n cv, .func (.func 44) #[] #[.pointer (some ⟨Y + 1 + 1 + 1 + 1, 0, none⟩)], .int .i64 ((n - 1 - j : Nat) : Int), .string x, .int .i64 Ri, .bool false, .int .i64 Ri, .int .i64 B, .int .i64 di, .int .i64 di, u29, u30, u31, u32, u33, u34, u35, u36, u37, u38, u39, u40, undef, undef, undef, undef, undef, undef, undef, undef], defers := [] }) ∧ ∃ v' w3, w' = w3.setCell ⟨Y + 1, 0, none⟩ v' ∧ Fr (fun q => v.ownBlock = some q) W2 w3 ∧ BOwn w3 Y v' (acc ++ [(x, z)])) ?first ?rest
          case first =>
            refine wpIn_region_held (fun V => V.cell? ⟨Y, 0, none⟩ = some (.slice (some ⟨bu, ou, none⟩) nu cu) ∧ V.cell? ⟨bu, ou + d, none⟩ = some (.int .i64 z)) hmix (by kernel_rfl) (by rintro ⟨_, _, h, _⟩; cases h) (HSS.out _ (Fr.refl _ _).drew) ?_
            intro hS
            refine wpAnyH_take (i := 1) (v := (.string x)) rfl (by kernel_rfl) (by kernel_rfl) (by kernel_rfl) (fun _ _ _ h => by cases h.1) (Or.inl ⟨by rfl, fun w' hw' => ?_⟩) hS ?_
            · go_simp
            simp only [Act.put, List.getElem_toArray, List.getElem_cons_zero, List.getElem_cons_succ, List.setIfInBounds_toArray, List.set_cons_zero, List.set_cons_succ]
            refine wpAnyH_take (i := 2) (v := (.slice (some ⟨bu, ou, none⟩) nu cu)) rfl (by kernel_rfl) (by kernel_rfl) (by kernel_rfl) (fun _ _ _ h => by cases h.1) (Or.inl ⟨by rfl, fun w' hw' => ?_⟩) hS ?_
            · have y0 := hw'.1; go_simp
            simp only [Act.put, List.getElem_toArray, List.getElem_cons_zero, List.getElem_cons_succ, List.setIfInBounds_toArray, List.set_cons_zero, List.set_cons_succ]
            refine wpAnyH_take (i := 3) (v := (.int .i64 di)) rfl (by kernel_rfl) (by kernel_rfl) (by kernel_rfl) (fun _ _ _ h => by cases h.1) (Or.inl ⟨by rfl, fun w' hw' => ?_⟩) hS ?_
            · go_simp
            simp only [Act.put, List.getElem_toArray, List.getElem_cons_zero, List.getElem_cons_succ, List.setIfInBounds_toArray, List.set_cons_zero, List.set_cons_succ]
            refine wpAnyH_take (i := 4) (v := (.int .i64 (d : Int))) rfl (by kernel_rfl) (by kernel_rfl) (by kernel_rfl) (fun _ _ _ h => by cases h.1) (Or.inl ⟨by rfl, fun w' hw' => ?_⟩) hS ?_
            · go_simp; exact IntWalk.i64_in _ (by constructor <;> omega)
            simp only [Act.put, List.getElem_toArray, List.getElem_cons_zero, List.getElem_cons_succ, List.setIfInBounds_toArray, List.set_cons_zero, List.set_cons_succ]
            refine wpAnyH_take (i := 5) (v := (.pointer (some ⟨bu, ou + d, none⟩))) rfl (by kernel_rfl) (by kernel_rfl) (by kernel_rfl) (fun _ _ _ h => by cases h.1) (Or.inl ⟨by rfl, fun w' hw' => ?_⟩) hS ?_
            · go_simp
            simp only [Act.put, List.getElem_toArray, List.getElem_cons_zero, List.getElem_cons_succ, List.setIfInBounds_toArray, List.set_cons_zero, List.set_cons_succ]
            refine wpAnyH_take (i := 6) (v := (.int .i64 z)) rfl (by kernel_rfl) (by kernel_rfl) (by kernel_rfl) (fun _ _ _ h => by cases h.1) (Or.inl ⟨by rfl, fun w' hw' => ?_⟩) hS ?_
            · have y0 := hw'.2; go_simp
            simp only [Act.put, List.getElem_toArray, List.getElem_cons_zero, List.getElem_cons_succ, List.setIfInBounds_toArray, List.set_cons_zero, List.set_cons_succ]
            refine wpAnyH_take (i := 7) (v := (.agg #[.string ⟨#[]⟩, .int .i64 z, .slice none 0 0])) rfl (by kernel_rfl) (by kernel_rfl) (by kernel_rfl) (fun _ _ _ h => by cases h.1) (Or.inl ⟨by rfl, fun w' hw' => ?_⟩) hS ?_
            · go_simp
            simp only [Act.put, List.getElem_toArray, List.getElem_cons_zero, List.getElem_cons_succ, List.setIfInBounds_toArray, List.set_cons_zero, List.set_cons_succ]
            refine wpAnyH_take (i := 8) (v := (.agg #[.string x, .string ⟨#[]⟩, .int .i64 z, .slice none 0 0])) rfl (by kernel_rfl) (by kernel_rfl) (by kernel_rfl) (fun _ _ _ h => by cases h.1) (Or.inl ⟨by rfl, fun w' hw' => ?_⟩) hS ?_
            · go_simp
            simp only [Act.put, List.getElem_toArray, List.getElem_cons_zero, List.getElem_cons_succ, List.setIfInBounds_toArray, List.set_cons_zero, List.set_cons_succ]
            refine wpAnyH_ready (rs := [0, 9]) (by kernel_rfl) (by simp) ?_
            refine AllReadyH.cons rfl (fun K hK => ?_) (AllReadyH.cons rfl (fun K hK => ?_) AllReadyH.nil)
            · have bq : W2.drew.cell? ⟨Y + 1, 0, none⟩ = some v := HST2.out.y1.c 0
              go_simp
              refine hK.out _ _ hS (fun hS => ?_)
              clear hK K
              refine wpAnyH_ready (rs := [9]) (by kernel_rfl) (by simp) ?_
              refine AllReadyH.cons rfl (fun K hK => ?_) AllReadyH.nil
              go_simp
              refine hK.out _ _ (HSS.out _ (Fr.of_below (alloc_below0 W2 _)).drew) (fun hS => ?_)
              clear hK K
              refine wpAnyH_ready (rs := [10]) (by kernel_rfl) (by simp) ?_
              refine AllReadyH.cons rfl (fun K hK => ?_) AllReadyH.nil
              refine step_append_lies _ (by rfl) _ _ 34 (by rfl) Y 44 i0 _ 4 64 Try.underlying34 hi hz1 hz2 hz3 rfl (by decide) v acc.length (blAll acc) (by rfl) (HST2.out.row.below (alloc_below0 W2 _).drew) ⟨W2.heap.size, 0, none⟩ 1 1 (blC (x, z)) (by rfl) rfl (World.news_of_block (Box.new W2 44 #[.string x, .string ⟨#[]⟩, .int .i64 z, .slice none 0 0])) (blAll_one [(x, z)]) (by decide) (by unfold maxLen; have := HAL.out; omega) (by have := HAL.out; omega) (by have := HYW.out; show Y ≤ (W2.alloc _).heap.size; rw [World.size_alloc]; omega) _ rfl ?_
              intro g3 cap3 w3 hown3 hgrow3 hat3 hlt3
              have hf3 : Fr (fun q => v.ownBlock = some q) W2 w3 := (Fr.of_below (alloc_below0 W2 _).drew).trans (fr_grown hgrow3)
              have bx3 := HST2.out.y1.fr hf3 HN1.out
              have v0 : w3.cell? ⟨Y + 1, 0, none⟩ = some v := bx3.c 0
              have e0 := bx3.f 0
              refine hK.out _ _ (HSS.out _ hf3) (fun hS => ?_)
              clear hK K
              simp only [Act.put, List.getElem_toArray, List.getElem_cons_zero, List.getElem_cons_succ, List.setIfInBounds_toArray, List.set_cons_zero, List.set_cons_succ]
              refine wpAnyH_ready (rs := [11]) (by kernel_rfl) (by simp) ?_
              refine AllReadyH.cons rfl (fun K hK => ?_) AllReadyH.nil
              go_simp
              refine hK.out _ _ (HSX.out w3 hf3 _) (fun hS => ?_)
              clear hK K
              refine wpAnyH_done (by kernel_rfl) ?_ _
              exact ⟨rfl, ⟨_, _, _, _, _, _, _, _, _, _, _, _, rfl⟩, .slice (some ⟨g3, 0, none⟩) (acc.length + 1) cap3, w3, rfl, hf3, own_snoc hown3⟩
            · go_simp
              refine hK.out _ _ (HSS.out _ (Fr.of_below (alloc_below0 W2 _)).drew) (fun hS => ?_)
              clear hK K
              refine wpAnyH_ready (rs := [0]) (by kernel_rfl) (by simp) ?_
              refine AllReadyH.cons rfl (fun K hK => ?_) AllReadyH.nil
              have bq : (W2.alloc (.cells #[.string x, .string ⟨#[]⟩, .int .i64 z, .slice none 0 0] 44)).drew.cell? ⟨Y + 1, 0, none⟩ = some v := (HST2.out.y1.over (.cells #[.string x, .string ⟨#[]⟩, .int .i64 z, .slice none 0 0] 44)).c 0
              go_simp
              refine hK.out _ _ hS (fun hS => ?_)
              clear hK K
              refine wpAnyH_ready (rs := [10]) (by kernel_rfl) (by simp) ?_
              refine AllReadyH.cons rfl (fun K hK => ?_) AllReadyH.nil
              refine step_append_lies _ (by rfl) _ _ 34 (by rfl) Y 44 i0 _ 4 64 Try.underlying34 hi hz1 hz2 hz3 rfl (by decide) v acc.length (blAll acc) (by rfl) (HST2.out.row.below (alloc_below0 W2 _).drew) ⟨W2.heap.size, 0, none⟩ 1 1 (blC (x, z)) (by rfl) rfl (World.news_of_block (Box.new W2 44 #[.string x, .string ⟨#[]⟩, .int .i64 z, .slice none 0 0])) (blAll_one [(x, z)]) (by decide) (by unfold maxLen; have := HAL.out; omega) (by have := HAL.out; omega) (by have := HYW.out; show Y ≤ (W2.alloc _).heap.size; rw [World.size_alloc]; omega) _ rfl ?_
              intro g3 cap3 w3 hown3 hgrow3 hat3 hlt3
              have hf3 : Fr (fun q => v.ownBlock = some q) W2 w3 := (Fr.of_below (alloc_below0 W2 _).drew).trans (fr_grown hgrow3)
              have bx3 := HST2.out.y1.fr hf3 HN1.out
              have v0 : w3.cell? ⟨Y + 1, 0, none⟩ = some v := bx3.c 0
              have e0 := bx3.f 0
              refine hK.out _ _ (HSS.out _ hf3) (fun hS => ?_)
              clear hK K
              simp only [Act.put, List.getElem_toArray, List.getElem_cons_zero, List.getElem_cons_succ, List.setIfInBounds_toArray, List.set_cons_zero, List.set_cons_succ]
              refine wpAnyH_ready (rs := [11]) (by kernel_rfl) (by simp) ?_
              refine AllReadyH.cons rfl (fun K hK => ?_) AllReadyH.nil
              go_simp
              refine hK.out _ _ (HSX.out w3 hf3 _) (fun hS => ?_)
              clear hK K
              refine wpAnyH_done (by kernel_rfl) ?_ _
              exact ⟨rfl, ⟨_, _, _, _, _, _, _, _, _, _, _, _, rfl⟩, .slice (some ⟨g3, 0, none⟩) (acc.length + 1) cap3, w3, rfl, hf3, own_snoc hown3⟩
          case rest =>
            rintro e a' w' ⟨rfl, ⟨u29, u30, u31, u32, u33, u34, u35, u36, u37, u38, u39, u40, rfl⟩, v', w3, rfl, hf3, hown3⟩
            have hst4 := HST2.out.app (by omega) hf3 hown3
            have hL4 : (w3.setCell ⟨Y + 1, 0, none⟩ v').heap[W0.heap.size + 1]? = some (.loop { r with state := .busy }) := (set_far (by omega) _).trans ((hf3.same _ (Array.getElem?_eq_some_iff.1 HL2.out).1 HLN.out).trans HL2.out)
            have HS4 := hid hst4; have HL4 := hid hL4
            clear hst4 hL4 hf3 hown3 HST2 HL2 HSS HSX y2 y3 HN1 HNb HYW HLN hcu2
            generalize w3.setCell ⟨Y + 1, 0, none⟩ v' = W4 at HS4 HL4 ⊢
            have y2 : W4.cell? ⟨Y + 1 + 1, 0, none⟩ = some (.int .i64 Ri) := by rw [← HRI.out]; exact HS4.out.y2.c 0
            have y3 : W4.cell? ⟨Y + 1 + 1 + 1, 0, none⟩ = some (.int .i64 B) := by rw [← HBI.out, ← HNU.out]; exact HS4.out.k.y3.c 0
            have f2 : W4.frozen? ⟨Y + 1 + 1, 0, none⟩ = false := HS4.out.y2.f 0
            clear hlenR hsz
            gi_wp2
            have hsz := HSI.out
            rw [← HQI.out]
            have hst5 := HS4.out.rest (by omega) (R2 : Int)
            have hL5 : (W4.setCell ⟨Y + 2, 0, none⟩ (.int .i64 (R2 : Int))).heap[W0.heap.size + 1]? = some (.loop { r with state := .busy }) := (set_far (by omega) _).trans HL4.out
            have hst6 := hst5.put hL5 (by omega) (by omega) (.loop { r with state := .ready, pending := none })
            refine ⟨hL5, HRT.out _ ⟨?_, v', acc ++ [(x, z)], ?_, ?_⟩⟩
            · rw [loop_again hr1 hr2]; exact World.putObj_heap_same (Array.getElem?_eq_some_iff.1 hL5).1
            · rw [HNX.out]; exact hst6
            · rw [HNX.out]; exact HW2.out
    · rintro e W ⟨⟨vv, rfl⟩, hJX⟩
      have HOUT1 : Hid (∀ T : Nat, K / (nu + 1) ^ n = T → 0 < T → wayO us vs (K : Int) = ([], false)) := hid (by
        intro T h1 h2
        unfold wayO
        rw [if_neg (by omega), Int.toNat_natCast, HNU.out, HN.out, h1, if_neg (by omega)])
      rcases hJX with ⟨hL, v, acc, hst, hway⟩ | ⟨hL, v, acc, hst, hway, hz⟩
      · rw [List.drop_eq_nil_of_le (by rw [hlenR]; omega)] at hway
        have hway2 : wayR us vs.reverse K = acc.reverse := by rw [hway]; rfl
        obtain ⟨T, hT0⟩ : ∃ T, K / (nu + 1) ^ n = T := ⟨_, rfl⟩
        rw [hT0] at hst
        obtain ⟨Ti, hTi⟩ : ∃ Ti : Int, (T : Int) = Ti := ⟨_, rfl⟩
        rw [hTi] at hst
        have HOA : Hid (0 < Ti → wayO us vs (K : Int) = ([], false)) := hid (fun h => HOUT1.out T hT0 (by omega))
        have HOUT2 : Hid (¬ 0 < Ti → wayO us vs (K : Int) = (acc.reverse, true)) := hid (by
          intro h2
          unfold wayO
          rw [if_neg (by omega), Int.toNat_natCast, HNU.out, HN.out, hT0, if_pos (by omega), hway2])
        have HAL : Hid (acc.length ≤ 63) := hid (by have h5 := wayR_small us vs.reverse K (by omega); rw [hway2, List.length_reverse] at h5; exact h5)
        clear HOUT1 hway hway2 hTi hT0
        refine ⟨⟨vv, rfl⟩, hst.k.df, .inl ⟨hL, ?_⟩⟩
        have hsz := HSI.out
        have hst4 := hst.put hL (by omega) (by omega) (.loop { r with state := .exhausted })
        have HS4 := hid hst4
        clear hst hst4 hL hr1 hr2 hr3 hr4 hr5 hr6 hr7 hS0 hL0 hlenR
        generalize W.putObj (W0.heap.size + 1) (.loop { r with state := .exhausted }) = W4 at HS4 ⊢
        have y2 : W4.cell? ⟨Y + 1 + 1, 0, none⟩ = some (.int .i64 Ti) := HS4.out.y2.c 0
        have y1 : W4.cell? ⟨Y + 1, 0, none⟩ = some v := HS4.out.y1.c 0
        have HLOW : Hid (∀ V, Below Y W4 V → Below w.heap.size w V) := hid (fun V hV => by rw [HY.out]; exact HS4.out.k.low.trans hV)
        by_cases hT : 0 < Ti
        · clear hsz
          gi_wp2
          refine ⟨by simp, .inl ⟨_, _, rfl, run_takeDeferred HS4.out.k.df, ?_⟩⟩
          refine ⟨_, results_tmp2 rfl _ _ _, ?_⟩
          rw [HOA.out hT]
          have hsz := HSI.out
          exact ⟨_, rfl, bOwn_nil _ _, HLOW.out _ (below_put _ (by omega) _)⟩
        · rcases HS4.out.row.cases with ⟨hv0, hacc0⟩ | ⟨g, cap, hv0, hg0⟩
          · subst hv0 hacc0
            clear hsz
            gi_wp2_with fail
            refine ⟨trivial, ?_⟩
            refine (callsIn_wide.2 (reverse_nil _)).mono ?_
            rintro e w' ⟨⟨v9, rfl⟩, rfl⟩
            gi_wp2
            refine ⟨by simp, .inl ⟨_, _, rfl, run_takeDeferred HS4.out.k.df, ?_⟩⟩
            refine ⟨_, results_tmp2 rfl _ _ _, ?_⟩
            rw [HOUT2.out hT]
            have hsz := HSI.out
            exact ⟨_, rfl, bOwn_nil _ _, HLOW.out _ (below_put _ (by omega) _)⟩
          · subst hv0
            have HREV := hid (reverse_any g cap acc W4 HS4.out.row.rw HAL.out)
            have HG1 : Hid (g ≠ Y + 1) := hid fun e => HS4.out.row.ne HS4.out.y1 (fun cur e => by injection e with _ e; exact absurd e (by decide)) (by rw [← e]; rfl)
            have HGD : Hid (g ≠ W0.heap.size) := hid fun e => HS4.out.row.ne HS4.out.k.df (fun cur e => by cases e) (by rw [← e]; rfl)
            obtain ⟨na, hna⟩ : ∃ na, acc.length = na := ⟨_, rfl⟩
            have HNA := hid hna
            rw [hna] at HREV y1
            clear hsz hna
            gi_wp2_with fail
            refine ⟨trivial, ?_⟩
            refine (callsIn_wide.2 HREV.out).mono ?_
            rintro e w9 ⟨⟨v9, rfl⟩, hso⟩
            have z1 : w9.cell? ⟨Y + 1, 0, none⟩ = some (.slice (some ⟨g, 0, none⟩) na cap) := hso.fr.cell y1 (fun e => HG1.out e.symm)
            have zd := (hso.fr.same W0.heap.size (Array.getElem?_eq_some_iff.1 HS4.out.k.df).1 (fun e => HGD.out e.symm)).trans HS4.out.k.df
            have HSO := hid hso; have HZD := hid zd
            clear hso zd y1 y2 HREV
            gi_wp2
            refine ⟨by simp, .inl ⟨_, _, rfl, run_takeDeferred HZD.out, ?_⟩⟩
            refine ⟨_, results_tmp2 rfl _ _ _, ?_⟩
            rw [HOUT2.out hT]
            have hsz := HSI.out
            have hYW : Y ≤ W4.heap.size := Nat.le_trans (by omega) (Nat.le_of_lt HS4.out.k.y4.lt)
            have hb9 : Below Y W4 w9 := HSO.out.fr.below (fun q hq => by rw [hq]; exact hg0) hYW
            have hrw : Rw blC (w9.putObj W0.heap.size (.deferred none)) g cap acc.reverse := HSO.out.row.fr (fr_one W0.heap.size _) HGD.out
            have hown := own_of_rw hrw hg0
            rw [List.length_reverse, HNA.out] at hown
            exact ⟨_, rfl, by rw [HY.out]; exact hown, HLOW.out _ (hb9.trans (below_put _ (by omega) _))⟩
      · obtain ⟨Ti, hTi⟩ : ∃ Ti : Int, (0 : Int) = Ti := ⟨_, rfl⟩
        rw [hTi] at hst
        have HOA : Hid (0 < Ti → wayO us vs (K : Int) = ([], false)) := hid (by intro h; omega)
        have HOUT2 : Hid (¬ 0 < Ti → wayO us vs (K : Int) = (acc.reverse, true)) := hid (by
          intro h2
          unfold wayO
          rw [if_neg (by omega), Int.toNat_natCast, HNU.out, HN.out, if_pos hz, hway])
        have HAL : Hid (acc.length ≤ 63) := hid (by have h5 := wayR_small us vs.reverse K (by omega); rw [hway, List.length_reverse] at h5; exact h5)
        clear HOUT1 hway hz hTi
        refine ⟨⟨vv, rfl⟩, hst.k.df, .inr ⟨.exit 0, hL, ?_⟩⟩
        have hsz := HSI.out
        have hst4 := hst.put hL (by omega) (by omega) (.loop { r with state := .exhausted, pending := some (.exit 0) })
        have HS4 := hid hst4
        clear hst hst4 hL hr1 hr2 hr3 hr4 hr5 hr6 hr7 hS0 hL0 hlenR
        generalize W.putObj (W0.heap.size + 1) (.loop { r with state := .exhausted, pending := some (.exit 0) }) = W4 at HS4 ⊢
        have y2 : W4.cell? ⟨Y + 1 + 1, 0, none⟩ = some (.int .i64 Ti) := HS4.out.y2.c 0
        have y1 : W4.cell? ⟨Y + 1, 0, none⟩ = some v := HS4.out.y1.c 0
        have HLOW : Hid (∀ V, Below Y W4 V → Below w.heap.size w V) := hid (fun V hV => by rw [HY.out]; exact HS4.out.k.low.trans hV)
        by_cases hT : 0 < Ti
        · clear hsz
          gi_wp2
          refine ⟨by simp, .inl ⟨_, _, rfl, run_takeDeferred HS4.out.k.df, ?_⟩⟩
          refine ⟨_, results_tmp2 rfl _ _ _, ?_⟩
          rw [HOA.out hT]
          have hsz := HSI.out
          exact ⟨_, rfl, bOwn_nil _ _, HLOW.out _ (below_put _ (by omega) _)⟩
        · rcases HS4.out.row.cases with ⟨hv0, hacc0⟩ | ⟨g, cap, hv0, hg0⟩
          · subst hv0 hacc0
            clear hsz
            gi_wp2_with fail
            refine ⟨trivial, ?_⟩
            refine (callsIn_wide.2 (reverse_nil _)).mono ?_
            rintro e w' ⟨⟨v9, rfl⟩, rfl⟩
            gi_wp2
            refine ⟨by simp, .inl ⟨_, _, rfl, run_takeDeferred HS4.out.k.df, ?_⟩⟩
            refine ⟨_, results_tmp2 rfl _ _ _, ?_⟩
            rw [HOUT2.out hT]
            have hsz := HSI.out
            exact ⟨_, rfl, bOwn_nil _ _, HLOW.out _ (below_put _ (by omega) _)⟩
          · subst hv0
            have HREV := hid (reverse_any g cap acc W4 HS4.out.row.rw HAL.out)
            have HG1 : Hid (g ≠ Y + 1) := hid fun e => HS4.out.row.ne HS4.out.y1 (fun cur e => by injection e with _ e; exact absurd e (by decide)) (by rw [← e]; rfl)
            have HGD : Hid (g ≠ W0.heap.size) := hid fun e => HS4.out.row.ne HS4.out.k.df (fun cur e => by cases e) (by rw [← e]; rfl)
            obtain ⟨na, hna⟩ : ∃ na, acc.length = na := ⟨_, rfl⟩
            have HNA := hid hna
            rw [hna] at HREV y1
            clear hsz hna
            gi_wp2_with fail
            refine ⟨trivial, ?_⟩
            refine (callsIn_wide.2 HREV.out).mono ?_
            rintro e w9 ⟨⟨v9, rfl⟩, hso⟩
            have z1 : w9.cell? ⟨Y + 1, 0, none⟩ = some (.slice (some ⟨g, 0, none⟩) na cap) := hso.fr.cell y1 (fun e => HG1.out e.symm)
            have zd := (hso.fr.same W0.heap.size (Array.getElem?_eq_some_iff.1 HS4.out.k.df).1 (fun e => HGD.out e.symm)).trans HS4.out.k.df
            have HSO := hid hso; have HZD := hid zd
            clear hso zd y1 y2 HREV
            gi_wp2
            refine ⟨by simp, .inl ⟨_, _, rfl, run_takeDeferred HZD.out, ?_⟩⟩
            refine ⟨_, results_tmp2 rfl _ _ _, ?_⟩
            rw [HOUT2.out hT]
            have hsz := HSI.out
            have hYW : Y ≤ W4.heap.size := Nat.le_trans (by omega) (Nat.le_of_lt HS4.out.k.y4.lt)
            have hb9 : Below Y W4 w9 := HSO.out.fr.below (fun q hq => by rw [hq]; exact hg0) hYW
            have hrw : Rw blC (w9.putObj W0.heap.size (.deferred none)) g cap acc.reverse := HSO.out.row.fr (fr_one W0.heap.size _) HGD.out
            have hown := own_of_rw hrw hg0
            rw [List.length_reverse, HNA.out] at hown
            exact ⟨_, rfl, by rw [HY.out]; exact hown, HLOW.out _ (hb9.trans (below_put _ (by omega) _))⟩
end Go.Proofs.Ytplekhfnidhcoaa
