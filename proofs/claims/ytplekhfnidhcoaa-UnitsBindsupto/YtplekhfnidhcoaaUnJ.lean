/- Way of the document. -/
import Derived.Test.YtplekhfnidhcoaaUnI
namespace Go.Proofs.Ytplekhfnidhcoaa
open Go.RowKit Go.Shelf Go.Deep

theorem Try.info3 : (Try.prog.info? 3).map (fun i => (i.zero, i.size, i.bytes)) = some (some (.int .i64 0), 1, 8) := by kernel_rfl
theorem make_ints (n : Nat) (hn : n ≤ 17592186044416) (w : World) : (Instr.makeSlice 29 (.int .i64 (n : Int)) (.int .i64 (n : Int))).run Try.prog w = .ok (.slice (some ⟨w.heap.size, 0, none⟩) n n) (w.alloc (.cells (madeCells #[.int .i64 0] n) 3)) :=
  run_make_row' (P := Try.prog) 29 3 (.int .i64 0) 8 Try.underlying29 Try.info3 rfl .i64 .i64 n (by omega) (by omega) w
/-- Numbers in a block of their own. -/
structure DgAt (W : World) (g n : Nat) (F : Nat → Int) : Prop where
  blk : ∃ cur : Array Value, W.heap[g]? = some (.cells cur 3 (0, 0)) ∧ ∀ i, i < n → cur[i]? = some (.int .i64 (F i))
theorem DgAt.same {W W' : World} {g n : Nat} {F : Nat → Int} (h : DgAt W g n F) (hs : W'.heap[g]? = W.heap[g]?) : DgAt W' g n F := let ⟨cur, h1, h2⟩ := h.blk; ⟨cur, hs.trans h1, h2⟩
theorem DgAt.cell {W : World} {g n : Nat} {F : Nat → Int} (h : DgAt W g n F) (i : Nat) (hi : i < n) : W.cell? ⟨g, i, none⟩ = some (.int .i64 (F i)) := let ⟨_, h1, h2⟩ := h.blk; cell_box h1 (h2 i hi)
theorem DgAt.free {W : World} {g n : Nat} {F : Nat → Int} (h : DgAt W g n F) (i : Nat) : W.frozen? ⟨g, i, none⟩ = false := let ⟨_, h1, _⟩ := h.blk; by simp [World.frozen?, h1]
theorem DgAt.lt {W : World} {g n : Nat} {F : Nat → Int} (h : DgAt W g n F) : g < W.heap.size := let ⟨_, h1, _⟩ := h.blk; (Array.getElem?_eq_some_iff.1 h1).1
theorem DgAt.set {W : World} {g n : Nat} {F : Nat → Int} (h : DgAt W g n F) (i : Nat) (x : Int) {F' : Nat → Int} (hF : ∀ q, q < n → F' q = if q = i then x else F q) : DgAt (W.setCell ⟨g, i, none⟩ (.int .i64 x)) g n F' := by
  obtain ⟨cur, h1, h2⟩ := h.blk
  refine ⟨_, block_set h1 _, fun j hj => ?_⟩
  have h3 := h2 j hj
  have h4 := (Array.getElem?_eq_some_iff.1 h3).1
  rw [Array.getElem?_setIfInBounds, hF j hj]
  by_cases e : i = j
  · subst e; rw [if_pos rfl, if_pos h4, if_pos rfl]
  · rw [if_neg e, if_neg (fun h => e h.symm)]; exact h3
theorem dg_new (w : World) (n : Nat) : DgAt (w.alloc (.cells (madeCells #[.int .i64 0] n) 3)) w.heap.size n (fun _ => 0) := by
  refine ⟨_, World.alloc_heap_new w _, fun i hi => ?_⟩
  have hs : i < (madeCells #[Value.int .i64 0] n).size := by simp [madeCells]; exact hi
  rw [Array.getElem?_eq_getElem hs]
  simp [madeCells, Nat.mod_one]
/-- The digits that are there behind j rounds. -/
def dgF (us : List Int) (vs : List ByteArray) (K j : Nat) (q : Nat) : Int := if vs.length ≤ q + j then (digI us vs K q : Int) else 0
theorem dgF_zero (us : List Int) (vs : List ByteArray) (K q : Nat) (h : q < vs.length) : dgF us vs K 0 q = 0 := by unfold dgF; rw [if_neg (by omega)]
theorem dgF_succ (us : List Int) (vs : List ByteArray) (K j i : Nat) (hi : i + j + 1 = vs.length) (q : Nat) : dgF us vs K (j + 1) q = if q = i then ((K / (us.length + 1) ^ j % (us.length + 1) : Nat) : Int) else dgF us vs K j q := by
  unfold dgF
  by_cases h : q = i
  · subst h
    rw [if_pos (by omega), if_pos rfl]
    unfold digI
    rw [show vs.length - 1 - q = j by omega]
  · rw [if_neg h]
    by_cases h2 : vs.length ≤ q + j
    · rw [if_pos (by omega), if_pos h2]
    · rw [if_neg (by omega), if_neg h2]
theorem dgF_all (us : List Int) (vs : List ByteArray) (K q : Nat) : dgF us vs K vs.length q = (digI us vs K q : Int) := by unfold dgF; rw [if_pos (by omega)]
set_option maxRecDepth 100000 in
set_option maxHeartbeats 8000000 in
theorem rway_any (pu : Option Addr) (cu : Nat) (us : List Int) (pv : Option Addr) (cv : Nat) (vs : List ByteArray) (k : Int) (w : World) (hU : IntsAt w pu us) (hV : StrsAt w pv vs) (hu : us.length ≤ 17592186044416) (hv : vs.length ≤ 17592186044416) (hk : Is64 k) :
    Calls Try.prog 14 #[.slice pu us.length cu, .slice pv vs.length cv, .int .i64 k] w fun e w' => ∃ v, e = .returned (.tuple #[v, .bool (wayO us vs k).2]) ∧ BOwn w' w.heap.size v (wayO us vs k).1 ∧ Below w.heap.size w w' := by
  obtain ⟨nu, hNU⟩ : ∃ n, us.length = n := ⟨_, rfl⟩
  obtain ⟨n, hN⟩ : ∃ n, vs.length = n := ⟨_, rfl⟩
  have HU := hid hU; have HV := hid hV; have HNU := hid hNU; have HN := hid hN
  rw [hNU] at hu ⊢
  rw [hN] at hv ⊢
  clear hU hV hNU hN
  obtain ⟨hk1, hk2⟩ := hk
  by_cases hneg : k < 0
  · rw [wayO_neg hneg]
    go_enter Try.func14, Try.ntmps14
    go_wp2
    refine bodyPost_ret (results_tmp2 rfl _ _ _) rfl ?_
    exact ⟨_, rfl, bOwn_nil _ _, Below.refl _ _⟩
  · obtain ⟨K, rfl⟩ : ∃ K : Nat, k = K := ⟨k.toNat, by omega⟩
    obtain ⟨WO, hWO⟩ : ∃ x, wayO us vs (K : Int) = x := ⟨_, rfl⟩
    rw [hWO]
    have HWO := hid hWO
    clear hWO
    have hmk := make_ints n hv w
    have HD0 := hid (dg_new w n)
    have HL0 := hid (alloc_below0 w (.cells (madeCells #[.int .i64 0] n) 3))
    obtain ⟨B, hB⟩ : ∃ B : Int, (nu : Int) + 1 = B := ⟨_, rfl⟩
    have hB0 : B ≠ 0 := by omega
    have hB1 : (B == 0) = false := beq_eq_false_iff_ne.2 hB0
    have hnz : (n : Int) ≤ 17592186044416 := by omega
    have hnuz : (nu : Int) ≤ 17592186044416 := by omega
    go_enter Try.func14, Try.ntmps14
    go_wp2_with fail
    clear hmk
    generalize hW1 : w.alloc (.cells (madeCells #[.int .i64 0] n) 3) = W1 at HD0 HL0 ⊢
    clear hW1
    obtain ⟨G, hG⟩ : ∃ G, w.heap.size = G := ⟨_, rfl⟩
    rw [hG] at HD0 HL0 ⊢
    have HG := hid hG
    clear hG
    go_loopw [2, 9] (fun kv iv wr => ∃ j : Nat, j ≤ n ∧ iv = .int .i64 ((n : Int) - 1 - j) ∧ kv = .int .i64 ((K / (nu + 1) ^ j : Nat) : Int) ∧ DgAt wr G n (dgF us vs K j) ∧ Below G w wr) (fun _ iv _ => (intOf iv + 1).toNat)
    case atStart =>
      refine ⟨0, Nat.zero_le _, by simp, by rw [Nat.pow_zero, Nat.div_one], ?_, HL0.out⟩
      obtain ⟨cur, h1, h2⟩ := HD0.out.blk
      exact ⟨cur, h1, fun i hi => by rw [dgF_zero us vs K i (by rw [HN.out]; exact hi)]; exact h2 i hi⟩
    case round =>
      obtain ⟨j, hj, rfl, rfl, hdg, hlow⟩ := hrel
      obtain ⟨R, hR⟩ : ∃ R, K / (nu + 1) ^ j = R := ⟨_, rfl⟩
      have hRK : R ≤ K := by rw [← hR]; exact Nat.div_le_self _ _
      rw [hR]
      obtain ⟨Ri, hRi⟩ : ∃ Ri : Int, (R : Int) = Ri := ⟨_, rfl⟩
      rw [hRi]
      have HDG := hid hdg; have HLW := hid hlow; have HRR := hid hR; have HRI := hid hRi
      clear hdg hlow hR
      by_cases hlt : j < n
      · obtain ⟨i, hi⟩ : ∃ i, n - 1 - j = i := ⟨_, rfl⟩
        have hii : (n : Int) - 1 - j = (i : Int) := by omega
        rw [hii]
        have hin : (i : Int) < (n : Int) := by omega
        obtain ⟨R2, hR2⟩ : ∃ R2, R / (nu + 1) = R2 := ⟨_, rfl⟩
        obtain ⟨d0, hd0⟩ : ∃ d, R % (nu + 1) = d := ⟨_, rfl⟩
        have hR2K : R2 ≤ R := by rw [← hR2]; exact Nat.div_le_self _ _
        have hd1 : d0 < nu + 1 := by rw [← hd0]; exact Nat.mod_lt _ (by omega)
        obtain ⟨di, hdi⟩ : ∃ di : Int, (d0 : Int) = di := ⟨_, rfl⟩
        obtain ⟨Q, hQ⟩ : ∃ Q : Int, (R2 : Int) = Q := ⟨_, rfl⟩
        have hrem : Ri.tmod B = di := by rw [← hRi, ← hB, ← hdi, rem_nat, hd0]
        have hquo : Ri.tdiv B = Q := by rw [← hRi, ← hB, ← hQ, quo_nat, hR2]
        have e1 : wrap64 di = di := IntWalk.wrap64_in _ (by constructor <;> omega)
        have e2 : wrap64 Q = Q := IntWalk.wrap64_in _ (by constructor <;> omega)
        have c1 := HDG.out.cell i (by omega)
        have f1 := HDG.out.free i
        obtain ⟨oldv, hold⟩ : ∃ z, dgF us vs K j i = z := ⟨_, rfl⟩
        rw [hold] at c1
        have HF := hid (dgF_succ us vs K j i (by rw [HN.out]; omega))
        rw [HNU.out, HRR.out, hd0, hdi] at HF
        have HNX : Hid (K / (nu + 1) ^ (j + 1) = R2) := hid (by rw [pow_next, HRR.out, hR2])
        have HQI := hid hQ; have HI := hid hi; have HGK : Hid (G ≤ wr.heap.size) := hid (Nat.le_of_lt HDG.out.lt)
        clear hRi hR2 hd0 hR2K hd1 hdi hQ hold hi hii hRK
        go_wp2
        go_roundw
        case rel =>
          refine ⟨j + 1, by omega, by have := HI.out; simp; omega, by rw [HNX.out, HQI.out, e2], HDG.out.set i di (fun q _ => HF.out q), ?_⟩
          exact HLW.out.trans ((fr_set wr G i (.int .i64 di)).below (fun q hq => by omega) HGK.out)
        case measure => simp [intOf]
      · obtain rfl : j = n := by omega
        rw [show (j : Int) - 1 - j = -1 by omega]
        have HAL : Hid (∀ q, dgF us vs K j q = (digI us vs K q : Int)) := hid (fun q => by rw [← HN.out]; exact dgF_all us vs K q)
        by_cases hT : 0 < Ri
        · have hout : wayO us vs (K : Int) = ([], false) := by
            unfold wayO
            rw [if_neg (by omega), Int.toNat_natCast, HNU.out, HN.out, HRR.out, if_neg (by have := HRI.out; omega)]
          rw [HWO.out] at hout
          subst hout
          clear hRi hRK
          go_wp2
          refine bodyPost_ret (results_tmp2 rfl _ _ _) rfl ?_
          exact ⟨_, rfl, bOwn_nil _ _, by rw [HG.out]; exact HLW.out⟩
        · have hR0 : R = 0 := by omega
          have HOUT : Hid (wayO us vs (K : Int) = (wayI us vs K j, true)) := hid (by
            unfold wayO
            rw [if_neg (by omega), Int.toNat_natCast, HNU.out, HN.out, HRR.out, if_pos hR0, ← HN.out, wayI_all])
          have hRle : Ri ≤ 0 := by omega
          have HDG2 : Hid (DgAt wr G j (fun q => (digI us vs K q : Int))) := hid (by
            obtain ⟨cur, h1, h2⟩ := HDG.out.blk
            exact ⟨cur, h1, fun i hi => by rw [← HAL.out i]; exact h2 i hi⟩)
          rw [HWO.out] at HOUT
          clear hRi hR0 hT hRK HDG HAL
          go_wp2_with fail
          go_loopw [10, 11] (fun v iv wr2 => ∃ i : Nat, i ≤ j ∧ iv = .int .i64 i ∧ BOwn wr2 G v (wayI us vs K i) ∧ DgAt wr2 G j (fun q => (digI us vs K q : Int)) ∧ Below G w wr2) (fun _ iv _ => j - (intOf iv).toNat)
          case atStart => exact ⟨0, Nat.zero_le _, rfl, bOwn_nil _ _, HDG2.out, HLW.out⟩
          case round =>
            clear HDG2 HLW
            obtain ⟨i, hi, rfl, hown, hdg, hlow⟩ := hrel
            have HOW := hid hown; have HDG := hid hdg; have HLW := hid hlow
            clear hown hdg hlow
            by_cases hlt : i < j
            · have hst := wayI_succ us vs K i (by rw [HN.out]; exact hlt)
              have hsm := wayI_small us vs K (i + 1) (by omega)
              obtain ⟨bv, ov, hpv, hcv⟩ := HV.out.cells i (by rw [HN.out]; exact hlt)
              have hx1 := (HLW.out.cell (p := ⟨bv, ov + i, none⟩) (by rw [← HG.out]; exact World.block_lt_of_cell? w _ hcv)).trans hcv
              subst hpv
              generalize vs[i]'(by rw [HN.out]; exact hlt) = x at hst hx1 hcv
              have HBV : Hid (bv < G) := hid (by rw [← HG.out]; exact World.block_lt_of_cell? w _ hcv)
              have c1 := HDG.out.cell i hlt
              try dsimp only at c1
              have hdl := dig_lt us vs K i
              obtain ⟨d0, hd0⟩ : ∃ d, digI us vs K i = d := ⟨_, rfl⟩
              rw [hd0] at c1 hst hdl
              rw [HNU.out] at hdl
              obtain ⟨di, hdi⟩ : ∃ di : Int, (d0 : Int) = di := ⟨_, rfl⟩
              rw [hdi] at c1
              have hi0 : (i : Int) < (j : Int) := by omega
              obtain ⟨acc, hacc⟩ : ∃ l, wayI us vs K i = l := ⟨_, rfl⟩
              obtain ⟨acc2, hacc2⟩ : ∃ l, wayI us vs K (i + 1) = l := ⟨_, rfl⟩
              rw [hacc2] at hsm
              rw [hacc, hacc2] at hst
              rw [hacc] at HOW
              have HA2 := hid hacc2
              clear hd0 hacc hacc2 hcv
              have HGW : Hid (G ≤ wr.heap.size) := hid (Nat.le_of_lt HDG.out.lt)
              rcases Nat.eq_zero_or_pos d0 with hz | hz
              · rw [if_pos hz, List.append_nil] at hst
                subst hst
                have hle0 : di ≤ 0 := by omega
                clear hz hdi hdl hsm
                go_wp2
                go_roundw
                case rel => exact ⟨i + 1, by omega, by go_num, by rw [HA2.out]; exact HOW.out, HDG.out, HLW.out⟩
                case measure => simp [intOf]; omega
              · rw [if_neg (by omega)] at hst
                obtain ⟨d, rfl⟩ : ∃ d, d0 = d + 1 := ⟨d0 - 1, by omega⟩
                have hdn : d < nu := by omega
                obtain ⟨bu, ou, hpu, hcu⟩ := HU.out.cells d (by rw [HNU.out]; exact hdn)
                have hz2 : us.getD d 0 = us[d]'(by rw [HNU.out]; exact hdn) := by simp [show d < us.length by rw [HNU.out]; exact hdn]
                rw [show d + 1 - 1 = d by omega, hz2] at hst
                generalize us[d]'(by rw [HNU.out]; exact hdn) = z at hcu hst
                subst hpu
                have HBU : Hid (bu < G) := hid (by rw [← HG.out]; exact World.block_lt_of_cell? w _ hcu)
                have hu1 := (HLW.out.cell (p := ⟨bu, ou + d, none⟩) HBU.out).trans hcu
                have HAL : Hid (acc.length ≤ 62) := hid (by rw [hst, List.length_append, List.length_cons, List.length_nil] at hsm; omega)
                have HST := hid hst
                have e4 : di - 1 = (d : Int) := by omega
                have hdle : di ≤ 17592186044416 := by omega
                have hdz : (d : Int) < (nu : Int) := by omega
                have hdp : 0 < di := by omega
                obtain ⟨v, hv9⟩ : ∃ v, u10 = v := ⟨_, rfl⟩
                subst hv9
                have HNG : Hid (u10.ownBlock ≠ some G) := hid (by
                  obtain ⟨cur, h1, _⟩ := HDG.out.blk
                  exact HOW.out.ne h1 (fun cur e => by injection e with _ e; exact absurd e (by decide)))
                have HSS : Hid (∀ V, Fr (fun q => u10.ownBlock = some q) wr V → V.cell? ⟨bv, ov + i, none⟩ = some (.string x) ∧ V.cell? ⟨G, i, none⟩ = some (.int .i64 di) ∧ V.cell? ⟨bu, ou + d, none⟩ = some (.int .i64 z)) := hid (fun V hV => ⟨hV.cell hx1 (fun e => absurd (show G ≤ bv from (HOW.out.ge e).1) (by have := HBV.out; omega)), hV.cell c1 HNG.out, hV.cell hu1 (fun e => absurd (show G ≤ bu from (HOW.out.ge e).1) (by have := HBU.out; omega))⟩)
                clear hst hsm hcu hz2 hdi hdl hz hdn hx1 hu1
                obtain ⟨i0, hi9, hz1, hz2, hz3⟩ := info_parts Try.info44
                go_wp2_with fail
                refine wp_region_held_drew (S := fun V => V.cell? ⟨bv, ov + i, none⟩ = some (.string x) ∧ V.cell? ⟨G, i, none⟩ = some (.int .i64 di) ∧ V.cell? ⟨bu, ou + d, none⟩ = some (.int .i64 z)) (by kernel_rfl) (HSS.out _ (Fr.refl _ _).drew) ?_
                intro hS
                refine wpAnyH_take (i := 0) (v := u10) rfl (by kernel_rfl) (by kernel_rfl) (by kernel_rfl) (fun _ _ _ h => h) (Or.inl ⟨by rfl, fun w' hw' => ?_⟩) hS ?_
                · go_simp
                simp only [Act.put, List.getElem_toArray, List.getElem_cons_zero, List.setIfInBounds_toArray, List.set_cons_zero, List.set_cons_succ]
                refine wpAnyH_take (i := 1) (v := (.slice (some ⟨bv, ov, none⟩) j cv)) rfl (by kernel_rfl) (by kernel_rfl) (by kernel_rfl) (fun _ _ _ h => h) (Or.inl ⟨by rfl, fun w' hw' => ?_⟩) hS ?_
                · go_simp
                simp only [Act.put, List.getElem_toArray, List.getElem_cons_zero, List.getElem_cons_succ, List.setIfInBounds_toArray, List.set_cons_zero, List.set_cons_succ]
                refine wpAnyH_take (i := 2) (v := (.int .i64 (i : Int))) rfl (by kernel_rfl) (by kernel_rfl) (by kernel_rfl) (fun _ _ _ h => h) (Or.inl ⟨by rfl, fun w' hw' => ?_⟩) hS ?_
                · go_simp
                simp only [Act.put, List.getElem_toArray, List.getElem_cons_zero, List.getElem_cons_succ, List.setIfInBounds_toArray, List.set_cons_zero, List.set_cons_succ]
                refine wpAnyH_take (i := 3) (v := (.pointer (some ⟨bv, ov + i, none⟩))) rfl (by kernel_rfl) (by kernel_rfl) (by kernel_rfl) (fun _ _ _ h => h) (Or.inl ⟨by rfl, fun w' hw' => ?_⟩) hS ?_
                · go_simp
                simp only [Act.put, List.getElem_toArray, List.getElem_cons_zero, List.getElem_cons_succ, List.setIfInBounds_toArray, List.set_cons_zero, List.set_cons_succ]
                refine wpAnyH_take (i := 4) (v := (.string x)) rfl (by kernel_rfl) (by kernel_rfl) (by kernel_rfl) (fun _ _ _ h => h) (Or.inl ⟨by rfl, fun w' hw' => ?_⟩) hS ?_
                · have y0 := hw'.1; go_simp
                simp only [Act.put, List.getElem_toArray, List.getElem_cons_zero, List.getElem_cons_succ, List.setIfInBounds_toArray, List.set_cons_zero, List.set_cons_succ]
                refine wpAnyH_take (i := 5) (v := (.slice (some ⟨bu, ou, none⟩) nu cu)) rfl (by kernel_rfl) (by kernel_rfl) (by kernel_rfl) (fun _ _ _ h => h) (Or.inl ⟨by rfl, fun w' hw' => ?_⟩) hS ?_
                · go_simp
                simp only [Act.put, List.getElem_toArray, List.getElem_cons_zero, List.getElem_cons_succ, List.setIfInBounds_toArray, List.set_cons_zero, List.set_cons_succ]
                refine wpAnyH_take (i := 6) (v := (.slice (some ⟨G, 0, none⟩) j j)) rfl (by kernel_rfl) (by kernel_rfl) (by kernel_rfl) (fun _ _ _ h => h) (Or.inl ⟨by rfl, fun w' hw' => ?_⟩) hS ?_
                · go_simp
                simp only [Act.put, List.getElem_toArray, List.getElem_cons_zero, List.getElem_cons_succ, List.setIfInBounds_toArray, List.set_cons_zero, List.set_cons_succ]
                refine wpAnyH_take (i := 7) (v := (.int .i64 (i : Int))) rfl (by kernel_rfl) (by kernel_rfl) (by kernel_rfl) (fun _ _ _ h => h) (Or.inl ⟨by rfl, fun w' hw' => ?_⟩) hS ?_
                · go_simp
                simp only [Act.put, List.getElem_toArray, List.getElem_cons_zero, List.getElem_cons_succ, List.setIfInBounds_toArray, List.set_cons_zero, List.set_cons_succ]
                refine wpAnyH_take (i := 8) (v := (.pointer (some ⟨G, i, none⟩))) rfl (by kernel_rfl) (by kernel_rfl) (by kernel_rfl) (fun _ _ _ h => h) (Or.inl ⟨by rfl, fun w' hw' => ?_⟩) hS ?_
                · go_simp
                simp only [Act.put, List.getElem_toArray, List.getElem_cons_zero, List.getElem_cons_succ, List.setIfInBounds_toArray, List.set_cons_zero, List.set_cons_succ]
                refine wpAnyH_take (i := 9) (v := (.int .i64 di)) rfl (by kernel_rfl) (by kernel_rfl) (by kernel_rfl) (fun _ _ _ h => h) (Or.inl ⟨by rfl, fun w' hw' => ?_⟩) hS ?_
                · have y0 := hw'.2.1; go_simp
                simp only [Act.put, List.getElem_toArray, List.getElem_cons_zero, List.getElem_cons_succ, List.setIfInBounds_toArray, List.set_cons_zero, List.set_cons_succ]
                refine wpAnyH_take (i := 10) (v := (.int .i64 (d : Int))) rfl (by kernel_rfl) (by kernel_rfl) (by kernel_rfl) (fun _ _ _ h => h) (Or.inl ⟨by rfl, fun w' hw' => ?_⟩) hS ?_
                · go_simp; exact IntWalk.i64_in _ (by constructor <;> omega)
                simp only [Act.put, List.getElem_toArray, List.getElem_cons_zero, List.getElem_cons_succ, List.setIfInBounds_toArray, List.set_cons_zero, List.set_cons_succ]
                refine wpAnyH_take (i := 11) (v := (.pointer (some ⟨bu, ou + d, none⟩))) rfl (by kernel_rfl) (by kernel_rfl) (by kernel_rfl) (fun _ _ _ h => h) (Or.inl ⟨by rfl, fun w' hw' => ?_⟩) hS ?_
                · go_simp
                simp only [Act.put, List.getElem_toArray, List.getElem_cons_zero, List.getElem_cons_succ, List.setIfInBounds_toArray, List.set_cons_zero, List.set_cons_succ]
                refine wpAnyH_take (i := 12) (v := (.int .i64 z)) rfl (by kernel_rfl) (by kernel_rfl) (by kernel_rfl) (fun _ _ _ h => h) (Or.inl ⟨by rfl, fun w' hw' => ?_⟩) hS ?_
                · have y0 := hw'.2.2; go_simp
                simp only [Act.put, List.getElem_toArray, List.getElem_cons_zero, List.getElem_cons_succ, List.setIfInBounds_toArray, List.set_cons_zero, List.set_cons_succ]
                refine wpAnyH_take (i := 13) (v := (.agg #[.string ⟨#[]⟩, .int .i64 z, .slice none 0 0])) rfl (by kernel_rfl) (by kernel_rfl) (by kernel_rfl) (fun _ _ _ h => h) (Or.inl ⟨by rfl, fun w' hw' => ?_⟩) hS ?_
                · go_simp
                simp only [Act.put, List.getElem_toArray, List.getElem_cons_zero, List.getElem_cons_succ, List.setIfInBounds_toArray, List.set_cons_zero, List.set_cons_succ]
                refine wpAnyH_take (i := 14) (v := (.agg #[.string x, .string ⟨#[]⟩, .int .i64 z, .slice none 0 0])) rfl (by kernel_rfl) (by kernel_rfl) (by kernel_rfl) (fun _ _ _ h => h) (Or.inl ⟨by rfl, fun w' hw' => ?_⟩) hS ?_
                · go_simp
                simp only [Act.put, List.getElem_toArray, List.getElem_cons_zero, List.getElem_cons_succ, List.setIfInBounds_toArray, List.set_cons_zero, List.set_cons_succ]
                refine wpAnyH_ready (rs := [15]) (by kernel_rfl) (by simp) ?_
                refine AllReadyH.cons rfl (fun K hK => ?_) AllReadyH.nil
                go_simp
                refine hK.out _ _ (HSS.out _ (Fr.of_below (alloc_below0 wr _)).drew) (fun hS => ?_)
                clear hK K
                refine wpAnyH_ready (rs := [16]) (by kernel_rfl) (by simp) ?_
                refine AllReadyH.cons rfl (fun K hK => ?_) AllReadyH.nil
                refine step_append_lies _ (by rfl) _ _ 34 (by rfl) G 44 i0 _ 4 64 Try.underlying34 hi9 hz1 hz2 hz3 rfl (by decide) u10 acc.length (blAll acc) (by rfl) (HOW.out.below (alloc_below0 wr _).drew) ⟨wr.heap.size, 0, none⟩ 1 1 (blC (x, z)) (by rfl) rfl (World.news_of_block (Box.new wr 44 #[.string x, .string ⟨#[]⟩, .int .i64 z, .slice none 0 0])) (blAll_one [(x, z)]) (by decide) (by unfold maxLen; have := HAL.out; omega) (by have := HAL.out; omega) (by have := HGW.out; show G ≤ (wr.alloc _).heap.size; rw [World.size_alloc]; omega) _ rfl ?_
                intro g3 cap3 w3 hown3 hgrow3 hat3 hlt3
                have hf3 : Fr (fun q => u10.ownBlock = some q) wr w3 := (Fr.of_below (alloc_below0 wr _).drew).trans (fr_grown hgrow3)
                refine hK.out _ _ (HSS.out _ hf3) (fun hS => ?_)
                clear hK K
                simp only [Act.put, List.getElem_toArray, List.getElem_cons_zero, List.getElem_cons_succ, List.setIfInBounds_toArray, List.set_cons_zero, List.set_cons_succ]
                refine wpAnyH_take (i := 17) (v := (.slice (some ⟨g3, 0, none⟩) (acc.length + 1) cap3)) rfl (by kernel_rfl) (by kernel_rfl) (by kernel_rfl) (fun _ _ _ h => h) (Or.inl ⟨by rfl, fun w' hw' => ?_⟩) hS ?_
                · go_simp
                simp only [Act.put, List.getElem_toArray, List.getElem_cons_zero, List.getElem_cons_succ, List.setIfInBounds_toArray, List.set_cons_zero, List.set_cons_succ]
                refine wpAnyH_done (by kernel_rfl) ?_ _
                have HF3 := hid hf3; have HO3 := hid (own_snoc hown3)
                clear hf3 hown3 hgrow3 hat3 hlt3 hS
                go_wp2
                go_roundw
                case rel =>
                  refine ⟨i + 1, by omega, by go_num, by rw [HA2.out, HST.out]; exact HO3.out, ?_, ?_⟩
                  · obtain ⟨cur, h1, h2⟩ := HDG.out.blk
                    exact ⟨cur, (HF3.out.same G HDG.out.lt HNG.out).trans h1, h2⟩
                  · exact HLW.out.trans (HF3.out.below (fun q hq => (HOW.out.ge hq).1) HGW.out)
                case measure => simp [intOf]; omega
            · obtain rfl : i = j := by omega
              have hout := HOUT.out
              subst hout
              go_wp2
              refine bodyPost_ret (results_tmp2 rfl _ _ _) rfl ?_
              exact ⟨_, rfl, by rw [HG.out]; exact HOW.out, by rw [HG.out]; exact HLW.out⟩
end Go.Proofs.Ytplekhfnidhcoaa
