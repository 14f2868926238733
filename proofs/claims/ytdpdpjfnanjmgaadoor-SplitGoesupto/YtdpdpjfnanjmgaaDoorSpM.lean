/- pushNext, walked. -/
import Derived.Test.YtdpdpjfnanjmgaaDoorSpN
import Derived.Test.YtdpdpjfnanjmgaaDoorSpR
namespace Go.Proofs.YtdpdpjfnanjmgaaDoor
open Go.RowKit Go.Shelf

theorem up_int {w : World} {pk : Option Addr} {k : List Nat} (h : IntsAt w pk (up k)) {i : Nat} (hi : i < k.length) : ∃ b o, pk = some ⟨b, o, none⟩ ∧ w.cell? ⟨b, o + i, none⟩ = some (.int .i64 ((k.getD i 0 : Nat) : Int)) := by
  obtain ⟨b, o, h1, h2⟩ := h.cells i (by rw [up_len]; exact hi)
  rw [up_at hi] at h2
  exact ⟨b, o, h1, h2⟩
/-- What a push of a round leaves. -/
theorem push_after (X K T ck : Nat) (pk : Option Addr) (k : List Nat) (f : Nat → Nat → Nat) (base : Nat) (v u1 : Value) (S : List Dl) (D : Dl) (w wr W3 : World) (hk : k.length = T) (hK : K ≤ 5) (hT : T ≤ 5) (hf : Sv k f) (hX : DlAt w X K pk T ck f) (hD : D.Ok K T) (hst : Stk base wr u1 S) (hn : S.length + 1 ≤ 1000000) (hb : base ≤ w.heap.size) (hTab : Tab w)
    (hfX : ¬ v.ownBlock = some X) (hf0 : ¬ v.ownBlock = some 0) (hfr : Fr (fun q => v.ownBlock = some q) w wr) (hlo : w.heap.size + 1 ≤ wr.heap.size) (hov : u1.ownBlock = v.ownBlock ∨ ∃ q, u1.ownBlock = some q ∧ w.heap.size + 1 ≤ q) (hvb : ∀ q, v.ownBlock = some q → q < w.heap.size) (h3 : Below wr.heap.size wr W3) :
    Calls Tryd.prog 29 #[.pointer (some ⟨X, 0, none⟩), u1, dV D] W3 fun e w5 => ∃ v5, e = .returned v5 ∧ Stk base w5 v5 (pushd f K T S D) ∧ w5.heap[w.heap.size]? = wr.heap[w.heap.size]? ∧ Fr (fun q => v.ownBlock = some q) w w5 ∧ w.heap.size + 1 ≤ w5.heap.size ∧ (v5.ownBlock = v.ownBlock ∨ ∃ q, v5.ownBlock = some q ∧ w.heap.size + 1 ≤ q) := by
  have hs3 := h3.size
  have hF3 : Fr (fun q => v.ownBlock = some q) w W3 := hfr.trans (Fr.of_below h3)
  have hT3 : Tab W3 := fun i hi => hF3.cell (hTab i hi) hf0
  refine (push_any X K T ck pk k f base u1 S D W3 hk hK hT hf (hX.same (hF3.same X hX.lt hfX)) hD (hst.below h3) hn (by omega) hT3).mono ?_
  rintro e w5 ⟨v5, rfl, h5, f5, o5⟩
  have hB : ¬ u1.ownBlock = some w.heap.size := fun e => by
    rcases hov with h | ⟨q, h, hq⟩
    · have := hvb _ (h ▸ e); omega
    · rw [h] at e; have := Option.some.inj e; omega
  have hs5 := f5.low.size
  have hown : ∀ q, q < w.heap.size → ¬ v.ownBlock = some q → ¬ u1.ownBlock = some q := fun q hq hA e => by
    rcases hov with h | ⟨q', h, hq'⟩
    · exact hA (h ▸ e)
    · rw [h] at e; have := Option.some.inj e; omega
  refine ⟨v5, rfl, h5, (f5.same _ (by omega) hB).trans (h3.block _ (by omega)), ⟨hF3.low.trans f5.low, fun q hq hA => (f5.same q (by omega) (hown q hq hA)).trans (hF3.same q hq hA)⟩, by omega, ?_⟩
  · rcases o5 with h | ⟨q, h, hq⟩
    · rw [h]; exact hov
    · exact .inr ⟨q, h, by omega⟩
theorem next_ok {K T : Nat} {k : List Nat} {d : Dl} (hd : d.Ok K T) (hm : d.v.length < K * T) (hT : T ≤ 5) (n : Nat) : (nextD K k d n).Ok K T := by
  have hK : 0 < K := by
    rcases Nat.eq_zero_or_pos K with h | h
    · subst h; simp at hm
    · exact h
  have hj := Nat.mod_lt d.v.length hK
  refine ⟨by simp [nextD]; omega, by simp [nextD, hd.left], fun j => ?_, ?_⟩
  · show (d.left.set _ _).getD j 0 ≤ 6
    rw [getD_set (by rw [hd.left]; exact hj)]
    split
    · have := hd.six (d.v.length % K); omega
    · exact hd.six j
  · show (if 0 < n then d.has ||| 2 ^ (d.v.length / K) else d.has) < 32
    split
    · refine or_lt32 hd.has ?_
      have : d.v.length / K < T := (Nat.div_lt_iff_lt_mul hK).2 (by rw [Nat.mul_comm]; exact hm)
      exact Nat.lt_of_lt_of_le (Nat.pow_lt_pow_right (by omega) (show d.v.length / K < 5 by omega)) (by decide)
    · exact hd.has
set_option maxRecDepth 100000 in
set_option maxHeartbeats 8000000 in
theorem next_any (X K T ck : Nat) (pk : Option Addr) (k : List Nat) (f : Nat → Nat → Nat) (base : Nat) (v : Value) (st : List Dl) (d : Dl) (w : World) (hk : k.length = T) (hk1 : ∀ x ∈ k, 1 ≤ x ∧ x ≤ 6) (hK : K ≤ 5) (hT : T ≤ 5) (hf : Sv k f) (hX : DlAt w X K pk T ck f) (hI : IntsAt w pk (up k)) (hd : d.Ok K T) (hm : d.v.length < K * T) (hS : Stk base w v st) (hn : st.length + 8 ≤ 1000000) (hb : base ≤ w.heap.size) (hTab : Tab w) (hfar : ∀ q, v.ownBlock = some q → q ≠ X ∧ q ≠ 0 ∧ ∀ a o, pk = some ⟨a, o, none⟩ → q ≠ a) :
    Calls Tryd.prog 30 #[.pointer (some ⟨X, 0, none⟩), v, dV d] w fun e w' => ∃ v', e = .returned v' ∧ Stk base w' v' (pushs f K T k st d (topN K k d + 1)) ∧ Fr (fun q => v.ownBlock = some q) w w' ∧ (v'.ownBlock = v.ownBlock ∨ ∃ q, v'.ownBlock = some q ∧ w.heap.size ≤ q) := by
  subst hk
  have hKpos : 0 < K := by
    rcases Nat.eq_zero_or_pos K with h | h
    · subst h; simp at hm
    · exact h
  obtain ⟨p, hp⟩ : ∃ p, d.v.length = p := ⟨_, rfl⟩
  have hp25 : p < 25 := by
    have h2 : K * k.length ≤ 5 * 5 := Nat.mul_le_mul hK hT
    omega
  have ht : p / K < k.length := (Nat.div_lt_iff_lt_mul hKpos).2 (by rw [Nat.mul_comm]; omega)
  have hj := Nat.mod_lt p hKpos
  obtain ⟨t, htt⟩ : ∃ t, p / K = t := ⟨_, rfl⟩
  obtain ⟨j, hjj⟩ : ∃ j, p % K = j := ⟨_, rfl⟩
  rw [htt] at ht
  rw [hjj] at hj
  obtain ⟨c, hc⟩ : ∃ c, k.getD t 0 = c := ⟨_, rfl⟩
  have hc1 : 1 ≤ c := by rw [← hc]; exact get_pos (fun x hx => (hk1 x hx).1) t ht
  obtain ⟨L, hL⟩ : ∃ L, d.left.getD j 0 = L := ⟨_, rfl⟩
  have hL6 : L ≤ 6 := by rw [← hL]; exact hd.six j
  have htop : topN K k d = L / c := by unfold topN; rw [hp, htt, hjj, hc, hL]
  obtain ⟨Q, hQ⟩ : ∃ Q, L / c = Q := ⟨_, rfl⟩
  rw [hQ] at htop
  have e3 : (L : Int) / (c : Int) = (Q : Int) := by rw [← hQ, Int.natCast_ediv]
  have hQ6 : Q ≤ 6 := by rw [← hQ]; exact Nat.le_trans (Nat.div_le_self _ _) hL6
  have hQc : Q * c ≤ L := by rw [← hQ]; exact Nat.div_mul_le_self _ _
  obtain ⟨W0, hW0⟩ : ∃ W0, w.alloc (.cells (dC d).toArray 62) = W0 := ⟨_, rfl⟩
  have hb0 : Below w.heap.size w W0 := by rw [← hW0]; exact alloc_below0 _ _
  have X0 : W0.heap[w.heap.size]? = some (.cells (dC d).toArray 62 (0, 0)) := by rw [← hW0]; exact World.alloc_heap_new w _
  have hsz : W0.heap.size = w.heap.size + 1 := by rw [← hW0, World.size_alloc]
  have D0 := hX.below hb0
  obtain ⟨kb, ko, rfl, hci⟩ := up_int (hI.below hb0) ht
  rw [hc] at hci
  have h25 := cells_box32 X0 (dC_made d)
  have h26 := cells_box32 X0 (dC_left d (show j < 5 by omega))
  rw [hp] at h25
  rw [hL] at h26
  have hx0 := D0.kinds; have hx1 := D0.often
  have HDW := hid hX
  have HTABW := hid hTab
  have HVB : Hid (∀ q, v.ownBlock = some q → q < w.heap.size) := hid fun q hq => (hS.lt hq).1
  have HCW : Hid (w.cell? ⟨kb, ko + t, none⟩ = some (.int .i64 (c : Int))) := hid (by
    obtain ⟨b, o, e, h⟩ := up_int hI ht
    cases e
    rw [hc] at h
    exact h)
  have HX := hid X0; have HD := hid D0; have HT := hid (hTab.below hb0); have HI := hid (hI.below hb0); have HOK := hid hd; have HF := hid hf; have HB := hid hb0; have HS0 := hid (hS.below hb0); have HSL := hid hS; have HFAR := hid hfar; have HSZ := hid hsz
  have HM := hid hm; have HTOP := hid htop; have HC := hid hc; have HL := hid hL; have HP := hid hp; have HK1 := hid hk1; have HTT := hid htt; have HJJ := hid hjj; have HN := hid hn
  have e1 : (p : Int) / (K : Int) = (t : Int) := by rw [← htt, Int.natCast_ediv]
  have e2 : (p : Int) % (K : Int) = (j : Int) := by rw [← hjj, Int.natCast_emod]
  have HQC := hid hQc
  clear hQ hQc hX hTab hS X0 D0 hd hf hb0 hI hfar hm htop hc hL hp hk1 htt hjj hn hsz
  have hKz : ((K : Int) == 0) = false := by simp; omega
  have hcz : ((c : Int) == 0) = false := by simp; omega
  go_enter Tryd.func30, Tryd.ntmps30
  go_wp2_with fail
  go_big_quiet (fail)
  go_wp2_with fail
  go_big_quiet (fail)
  go_wp2_with fail
  rw [e2]
  clear e1 e2
  go_loopw [1, 9, 10] (fun sv nv _ wr => ∃ i : Nat, i ≤ Q + 1 ∧ nv = .int .i64 ((Q : Int) - i) ∧ Stk base wr sv (pushs f K k.length k st d i) ∧ wr.heap[w.heap.size]? = some (.cells (dC d).toArray 62 (0, 0)) ∧ Fr (fun q => v.ownBlock = some q) w wr ∧ w.heap.size + 1 ≤ wr.heap.size ∧ (sv.ownBlock = v.ownBlock ∨ ∃ q, sv.ownBlock = some q ∧ w.heap.size + 1 ≤ q)) (fun _ nv _ _ => (intOf nv + 1).toNat)
  case atStart => exact ⟨0, Nat.zero_le _, by go_num, HS0.out, HX.out, Fr.of_below (below_drewN1 (below_drewN1 HB.out _) _), by have := HSZ.out; show _ ≤ W0.heap.size; omega, .inl rfl⟩
  case round =>
    obtain ⟨i, hi, rfl, hst, hbx, hfr, hlo, hov⟩ := hrel
    clear h25 h26 hx0 hx1 hci
    by_cases hlt : i < Q + 1
    · obtain ⟨n, hn⟩ : ∃ n, Q - i = n := ⟨_, rfl⟩
      have hni : (Q : Int) - (i : Int) = (n : Int) := by omega
      rw [hni]
      have hn0 : (0 : Int) ≤ (n : Int) := by omega
      have HST := hid hst; have HBX := hid hbx; have HFR := hid hfr; have HLO := hid hlo; have HOV := hid hov; have HNI := hid hn; have HLT := hid hlt
      have HLD := hid (range_dC hbx)
      obtain ⟨W1, hW1⟩ : ∃ W1, wr.alloc (.cells (dC d).toArray 62) = W1 := ⟨_, rfl⟩
      have hbW : Below wr.heap.size wr W1 := by rw [← hW1]; exact alloc_below0 _ _
      have hN1 : W1.heap[wr.heap.size]? = some (.cells (dC d).toArray 62 (0, 0)) := by rw [← hW1]; exact World.alloc_heap_new wr _
      have hB1 : W1.heap[w.heap.size]? = some (.cells (dC d).toArray 62 (0, 0)) := (hbW.block _ (by omega)).trans hbx
      have hNC := dC_one d
      have HW1 := hid hW1
      clear hst hbx hfr hlo hov hn hlt hW1 hni hi
      go_upto_region 5 with (fail)
      refine wp_region_lit ?_
      refine wpList_step fun KQ hK => ?_
      refine step_load rfl 62 (.tmp 5) rfl w.heap.size 0 (by rfl) (dC d) _ HLD.out Tryd.underlying62 rfl size62 ?_
      refine hK _ _ ?_
      clear hK
      refine wpList_step fun KQ hK => ?_
      have HKK := hid hK
      clear hK
      go_simp
      refine HKK.out _ _ ?_
      clear HKK
      refine wpList_step fun KQ hK => ?_
      refine step_store_new rfl 62 (.tmp 10) (.tmp 41) rfl _ (dC d).toArray (by rfl) (by rfl) (by rw [List.size_toArray]; exact size62) (by show 32 = (dC d).toArray.size; rw [List.size_toArray, dC_len]) (all_oneCell_toArray (dC_one d)) ?_
      refine hK _ _ ?_
      clear hK
      rw [HW1.out]
      have hFW : Fr (fun q => v.ownBlock = some q) w W1 := HFR.out.trans (Fr.of_below hbW)
      have hXX : ¬ v.ownBlock = some X := fun e => (HFAR.out X e).1 rfl
      have hXk : ¬ v.ownBlock = some kb := fun e => (HFAR.out kb e).2.2 kb ko rfl rfl
      have hXT : ¬ v.ownBlock = some 0 := fun e => (HFAR.out 0 e).2.1 rfl
      have hx1 : W1.cell? ⟨X, 1, none⟩ = some (.slice (some ⟨kb, ko, none⟩) k.length ck) := hFW.cell HDW.out.often hXX
      have hci : W1.cell? ⟨kb, ko + t, none⟩ = some (.int .i64 (c : Int)) := hFW.cell HCW.out hXk
      have b25 : W1.cell? ⟨w.heap.size, 25, none⟩ = some (iV p) := by have := cells_box32 hB1 (dC_made d); rwa [HP.out] at this
      have d25 : W1.cell? ⟨wr.heap.size, 25, none⟩ = some (iV p) := by have := cells_box32 hN1 (dC_made d); rwa [HP.out] at this
      have d26 : W1.cell? ⟨wr.heap.size, 26 + j, none⟩ = some (iV L) := by have := cells_box32 hN1 (dC_left d (show j < 5 by omega)); rwa [HL.out] at this
      have d31 := cells_box32 hN1 (dC_has d)
      have dpp := cells_box32 hN1 (dC_part d hp25)
      have fz : ∀ i, W1.frozen? ⟨wr.heap.size, i, none⟩ = false := fun i => by simp [World.frozen?, hN1]
      have f1 := fz p; have f2 := fz 25; have f3 := fz (26 + j); have f4 := fz 31
      have HFW := hid hFW; have HN1 := hid hN1; have HBW := hid hbW
      have hne : wr.heap.size ≠ w.heap.size := by have := HLO.out; omega
      clear hFW hN1 hB1 fz hbW hNC
      have hXl : X < w.heap.size := HDW.out.lt
      have hkl : kb < w.heap.size := World.block_lt_of_cell? w ⟨kb, ko + t, none⟩ HCW.out
      go_upto_region 8 with (fail)
      obtain ⟨W2, hW2⟩ : ∃ W2, (W1.setCell ⟨wr.heap.size, p, none⟩ (.int .i64 (n : Int))).setCell ⟨wr.heap.size, 25, none⟩ (.int .i64 ((p : Int) + 1)) = W2 := ⟨_, rfl⟩
      rw [hW2]
      have hN2 : W2.heap[wr.heap.size]? = some (.cells (((dC d).toArray.setIfInBounds p (iV n)).setIfInBounds 25 (.int .i64 ((p : Int) + 1))) 62 (0, 0)) := by rw [← hW2]; exact block_set (block_set HN1.out _) _
      have hF2 : Fr (fun q => q = wr.heap.size) W1 W2 := by rw [← hW2]; exact (fr_set _ _ _ _).trans (fr_set _ _ _ _)
      have hlo := HLO.out
      have hx2 : W2.cell? ⟨X, 1, none⟩ = some (.slice (some ⟨kb, ko, none⟩) k.length ck) := hF2.cell hx1 (by show X ≠ _; omega)
      have hc2 : W2.cell? ⟨kb, ko + t, none⟩ = some (.int .i64 (c : Int)) := hF2.cell hci (by show kb ≠ _; omega)
      have d26' : W2.cell? ⟨wr.heap.size, 26 + j, none⟩ = some (iV L) := cell_box hN2 (by
        rw [Array.getElem?_setIfInBounds, if_neg (by omega), Array.getElem?_setIfInBounds, if_neg (by omega), List.getElem?_toArray, dC_left d (show j < 5 by omega), HL.out])
      have fz : ∀ i, W2.frozen? ⟨wr.heap.size, i, none⟩ = false := fun i => by simp [World.frozen?, hN2]
      have g3 := fz (26 + j)
      have HN2 := hid hN2; have HF2 := hid hF2
      clear hW2 hN2 hF2 hx1 hci b25 d25 d26 d31 dpp f1 f2 f3 f4 fz
      have hQc2 : (n : Int) * (c : Int) ≤ (L : Int) := by
        have h1 : n * c ≤ Q * c := Nat.mul_le_mul_right _ (by have := HNI.out; omega)
        have h2 := HQC.out
        have h3 : n * c ≤ L := by omega
        exact_mod_cast h3
      have hQc3 : (0 : Int) ≤ (n : Int) * (c : Int) := Int.mul_nonneg (by omega) (by omega)
      have hj5 : (j : Int) < 5 := by omega
      have htk : (t : Int) < (k.length : Int) := by omega
      refine wp_region_still_tail 16 (by kernel_rfl) (by kernel_rfl) ?_
      simp only [List.take_succ_cons, List.take_zero, List.drop_succ_cons, List.drop_zero]
      iterate 16 still_step
      refine wpStill_nil ?_
      go_upto_region 9 with (fail)
      obtain ⟨W3, hW3⟩ : ∃ W3, (W2.setCell ⟨wr.heap.size, 26 + j, none⟩ (.int .i64 ((L : Int) - (n : Int) * (c : Int)))).drew = W3 := ⟨_, rfl⟩
      rw [hW3]
      have hN3 : W3.heap[wr.heap.size]? = some (.cells ((((dC d).toArray.setIfInBounds p (iV n)).setIfInBounds 25 (.int .i64 ((p : Int) + 1))).setIfInBounds (26 + j) (.int .i64 ((L : Int) - (n : Int) * (c : Int)))) 62 (0, 0)) := by rw [← hW3]; exact block_set HN2.out _
      have hF3 : Fr (fun q => q = wr.heap.size) W1 W3 := by rw [← hW3]; exact (HF2.out.trans (fr_set _ _ _ _)).drew
      have hLn : (L : Int) - (n : Int) * (c : Int) = ((L - n * c : Nat) : Int) := by
        rw [Int.ofNat_sub (by exact_mod_cast hQc2)]; simp
      have hp1 : (p : Int) + 1 = ((p + 1 : Nat) : Int) := by simp
      rw [hLn, hp1] at hN3
      clear hLn hp1
      have hh1 := HOK.out.has
      have hdl := HOK.out.left
      clear hx2 hc2 d26' g3 hW3
      by_cases hz : n = 0
      · subst hz
        have hN4 : W3.heap[wr.heap.size]? = some (.cells (dC (nextD K k d 0)).toArray 62 (0, 0)) := by
          rw [hN3]
          have h9 := dC_next0 d j (L - 0 * c) (by rw [HP.out]; omega) (by omega) (by omega)
          rw [HP.out] at h9
          rw [show (.int .i64 ((p + 1 : Nat) : Int) : Value) = iV (p + 1) from rfl, show (.int .i64 ((L - 0 * c : Nat) : Int) : Value) = iV (L - 0 * c) from rfl, h9]
          unfold nextD
          rw [HP.out, HTT.out, HJJ.out, HC.out, HL.out]
          rfl
        have HN4 := hid hN4; have HF4 := hid hF3
        clear hN3 hF3 hN4
        have HLD2 := hid (range_dC HN4.out)
        have HPU := hid (push_after X K k.length ck (some ⟨kb, ko, none⟩) k f base v u1 _ (nextD K k d 0) w wr W3 rfl hK hT HF.out HDW.out (next_ok HOK.out HM.out hT 0) HST.out (by have := pushs_len f K k.length k st d i; have := HN.out; have := HLT.out; omega) hb HTABW.out hXX hXT HFR.out HLO.out HOV.out HVB.out (HBW.out.trans (HF4.out.below (fun q hq => Nat.le_of_eq hq.symm) HBW.out.size)))
        go_upto_region 11 with (fail)
        refine wp_region_lit ?_
        iterate 2
          refine wpList_step fun KQ hK => ?_
          have HKK := hid hK
          clear hK
          go_simp
          refine HKK.out _ _ ?_
          clear HKK
        refine wpList_step fun KQ hK => ?_
        refine step_load rfl 62 (.tmp 10) rfl wr.heap.size 0 (by rfl) (dC (nextD K k d 0)) _ HLD2.out Tryd.underlying62 rfl size62 ?_
        refine hK _ _ ?_
        clear hK
        go_wp2_with fail
        refine HPU.out.mono ?_
        rintro e w5 ⟨v5, rfl, h5, q5, f5, l5, o5⟩
        have H5 := hid h5; have Q5 := hid q5; have F5 := hid f5; have L5 := hid l5; have O5 := hid o5
        clear h5 q5 f5 l5 o5 HPU
        go_wp2_with fail
        go_roundw
        case rel =>
          exact ⟨i + 1, by have := HLT.out; omega, by have := HNI.out; have := HLT.out; go_num, by rw [pushs, HTOP.out, HNI.out]; exact H5.out, Q5.out.trans HBX.out, F5.out, L5.out, O5.out⟩
        case measure => simp [intOf]
      · have hn1 : (0 : Int) < (n : Int) := by omega
        have d31 : W3.cell? ⟨wr.heap.size, 31, none⟩ = some (iV d.has) := cell_box hN3 (by
          rw [Array.getElem?_setIfInBounds, if_neg (by omega), Array.getElem?_setIfInBounds, if_neg (by omega), Array.getElem?_setIfInBounds, if_neg (by omega), List.getElem?_toArray, dC_has])
        have g4 : W3.frozen? ⟨wr.heap.size, 31, none⟩ = false := by simp [World.frozen?, hN3]
        have pw := (pow_wrap t (by omega)).1
        have h2t : 2 ^ t < 32 := Nat.lt_of_lt_of_le (Nat.pow_lt_pow_right (by omega) (show t < 5 by omega)) (by decide)
        have HOR := hid (i64_or_nat d.has (2 ^ t) hh1 h2t)
        have HN3 := hid hN3; have HF3 := hid hF3
        clear hN3 hF3
        go_upto_region 10 with (fail)
        refine wp_region_still_tail 6 (by kernel_rfl) (by kernel_rfl) ?_
        simp only [List.take_succ_cons, List.take_zero, List.drop_succ_cons, List.drop_zero]
        iterate 6 still_step
        refine wpStill_nil ?_
        go_upto_region 11 with (fail)
        obtain ⟨W4, hW4⟩ : ∃ W4, (W3.setCell ⟨wr.heap.size, 31, none⟩ (.int .i64 (bits .or .i64 (d.has : Int) (wrap64 (2 ^ t))))).drew = W4 := ⟨_, rfl⟩
        rw [hW4]
        have hN4 : W4.heap[wr.heap.size]? = some (.cells (dC (nextD K k d n)).toArray 62 (0, 0)) := by
          have h8 : W4.heap[wr.heap.size]? = some (.cells (((((dC d).toArray.setIfInBounds p (iV n)).setIfInBounds 25 (iV (p + 1))).setIfInBounds (26 + j) (iV (L - n * c))).setIfInBounds 31 (.int .i64 (bits .or .i64 (d.has : Int) (wrap64 (2 ^ t))))) 62 (0, 0)) := by rw [← hW4]; exact block_set HN3.out _
          rw [h8, pw, HOR.out]
          have h9 := dC_next d n j (L - n * c) (d.has ||| 2 ^ t) (by rw [HP.out]; omega) (by omega) (by omega)
          rw [HP.out] at h9
          rw [show (.int .i64 ((d.has ||| 2 ^ t : Nat) : Int) : Value) = iV (d.has ||| 2 ^ t) from rfl, h9]
          unfold nextD
          rw [HP.out, HTT.out, HJJ.out, HC.out, HL.out, if_pos (by omega)]
        have hF4 : Fr (fun q => q = wr.heap.size) W1 W4 := by rw [← hW4]; exact (HF3.out.trans (fr_set _ _ _ _)).drew
        have HN4 := hid hN4; have HF4 := hid hF4
        clear hN4 hF4 hW4 d31 g4 pw
        have HLD2 := hid (range_dC HN4.out)
        have HPU := hid (push_after X K k.length ck (some ⟨kb, ko, none⟩) k f base v u1 _ (nextD K k d n) w wr W4 rfl hK hT HF.out HDW.out (next_ok HOK.out HM.out hT n) HST.out (by have := pushs_len f K k.length k st d i; have := HN.out; have := HLT.out; omega) hb HTABW.out hXX hXT HFR.out HLO.out HOV.out HVB.out (HBW.out.trans (HF4.out.below (fun q hq => Nat.le_of_eq hq.symm) HBW.out.size)))
        refine wp_region_lit ?_
        iterate 2
          refine wpList_step fun KQ hK => ?_
          have HKK := hid hK
          clear hK
          go_simp
          refine HKK.out _ _ ?_
          clear HKK
        refine wpList_step fun KQ hK => ?_
        refine step_load rfl 62 (.tmp 10) rfl wr.heap.size 0 (by rfl) (dC (nextD K k d n)) _ HLD2.out Tryd.underlying62 rfl size62 ?_
        refine hK _ _ ?_
        clear hK
        go_wp2_with fail
        refine HPU.out.mono ?_
        rintro e w5 ⟨v5, rfl, h5, q5, f5, l5, o5⟩
        have H5 := hid h5; have Q5 := hid q5; have F5 := hid f5; have L5 := hid l5; have O5 := hid o5
        clear h5 q5 f5 l5 o5 HPU
        go_wp2_with fail
        go_roundw
        case rel =>
          exact ⟨i + 1, by have := HLT.out; omega, by
            have h1 := HNI.out
            have h2 := HLT.out
            have h3 : (n : Int) - 1 = (Q : Int) - ((i + 1 : Nat) : Int) := by omega
            have h4 : wrap64 ((n : Int) - 1) = (n : Int) - 1 := IntWalk.wrap64_in _ (by constructor <;> omega)
            exact congrArg (Value.int .i64) (h4.trans h3), by rw [pushs, HTOP.out, HNI.out]; exact H5.out, Q5.out.trans HBX.out, F5.out, L5.out, O5.out⟩
        case measure =>
          have h1 := HNI.out
          have h4 : wrap64 ((n : Int) - 1) = (n : Int) - 1 := IntWalk.wrap64_in _ (by constructor <;> omega)
          show (wrap64 ((n : Int) - 1) + 1).toNat < ((n : Int) + 1).toNat
          rw [h4]
          omega
    · have e : i = Q + 1 := by omega
      have hni : (Q : Int) - (i : Int) = -1 := by omega
      rw [hni]
      have HST := hid hst; have HFR := hid hfr; have HOV := hid hov
      clear hst hbx hfr hov hni hlt
      go_wp2_with fail
      go_ret
      refine ⟨u1, rfl, by rw [HTOP.out, ← e]; exact HST.out, HFR.out, ?_⟩
      rcases HOV.out with h | ⟨q, h, hq⟩
      · exact .inl h
      · exact .inr ⟨q, h, by omega⟩
end Go.Proofs.YtdpdpjfnanjmgaaDoor
