/- What gather does to a list of items. -/
import Derived.Test.YtlbmamkkbpjafabBGathP
import Derived.Test.YtlbmamkkbpjafabStAll
import Derived.Deep.RegionWith
namespace Go.Proofs.Ytlbmamkkbpjafab
open Go.RowKit Go.Deep

set_option maxRecDepth 100000 in
theorem sort_any (g cap gb : Nat) (l : List It) (w : World) (hg : Gb w g gb) (hR : Rw itCells w g cap l) (hn : l.length ≤ 2097152) :
    Calls Try.prog 32 #[.slice (some ⟨g, 0, none⟩) l.length cap, cmpV gb] w fun e w' => e = .returned (.tuple #[]) ∧ ∃ R, Sd ltI R ∧ Stb ltI l R ∧ So itCells w g cap R w' := by
  have HC := hid (stable_any g cap gb l w hg hR hn)
  clear hg hR
  go_enter Try.func32, Try.ntmps32
  go_wp2_with fail
  refine HC.out.mono ?_
  rintro e w1 ⟨rfl, h⟩
  have H := hid h
  clear h
  go_wp2
  go_end0
  exact ⟨rfl, H.out⟩
theorem cmpK_zero (a b : Th) : cmpK a b = 0 ↔ a.1 = b.1 := by
  unfold cmpK
  split
  · rename_i h; exact ⟨fun h2 => absurd h2 (by decide), fun h2 => by omega⟩
  · split
    · rename_i h; exact ⟨fun h2 => absurd h2 (by decide), fun h2 => by omega⟩
    · exact ⟨fun _ => by omega, fun _ => rfl⟩
theorem gathP_take (R : List It) (i : Nat) (h : i < R.length) : gathP (R.take (i + 1)) = stepG (gathP (R.take i)) R[i] := by rw [List.take_succ_eq_append_getElem h, gathP_snoc]
theorem owns65_mono {W : World} {base base' n : Nat} {v : Value} {xs : List Value} (h : W.ownsRow base 32 3 v n xs) (hb : base' ≤ base) : W.ownsRow base' 32 3 v n xs := ⟨h.1, h.2.imp id (fun ⟨g, cap, cur, a1, a2, a3⟩ => ⟨g, cap, cur, a1, Nat.le_trans hb a2, a3⟩)⟩
theorem owns65_below {W W' : World} {base n : Nat} {v : Value} {xs : List Value} (h : W.ownsRow base 32 3 v n xs) (hb : Below W.heap.size W W') : W'.ownsRow base 32 3 v n xs := owns_fr h (Fr.of_below (A := fun _ => False) hb) (fun _ _ h => h)
theorem owns65_form {W : World} {base n : Nat} {v : Value} {xs : List Value} (h : W.ownsRow base 32 3 v n xs) : ∃ p c, v = .slice p n c := by
  rcases h.2 with ⟨h2, h3⟩ | ⟨g, c, _, h2, _⟩
  · exact ⟨none, 0, by rw [h2, h3]⟩
  · exact ⟨_, _, h2⟩
set_option maxRecDepth 100000 in
set_option maxHeartbeats 8000000 in
theorem gather_any (base : Nat) (p : Option Addr) (c : Nat) (l : List It) (w : World) (hO : w.ownsRow base 32 3 (.slice p l.length c) l.length (itAll l)) (hn : l.length ≤ 2097152) (hy : ∀ y ∈ l, 1 ≤ y.2) (hN : sumN l ≤ 1000000000) :
    Calls Try.prog 24 #[ordV, .slice p l.length c] w fun e w' => ∃ v', e = .returned v' ∧ w'.ownsRow w.heap.size 32 3 v' (canB l).length (itAll (canB l)) ∧ Fr (fun q => p.map Addr.block = some q) w w' := by
  by_cases hl : l.length = 0
  · have hl' : l = [] := List.eq_nil_of_length_eq_zero hl
    subst hl'
    refine Calls.mono (gather_none p c w) ?_
    rintro e w' ⟨rfl, hb⟩
    exact ⟨_, rfl, World.ownsRow_nil _ _ _ _, Fr.of_below hb⟩
  obtain ⟨g, rfl, hgb, hR0⟩ := rowIt_of hO (by omega)
  have hR : Rw itCells w g c l := ⟨hR0.row, hR0.fits, hR0.small⟩
  have hgl : g < w.heap.size := hR.lt
  have hmf : ∀ (fn : Fn) (first cap : Array Value) (w : World), (Instr.makeFunc fn first cap).run Try.prog w = .ok (.func fn first cap) w := fun _ _ _ _ => rfl
  obtain ⟨i0, hi0, hz0, hz1, hz2⟩ := info_parts Try.info32
  have b0 := alloc_below0 w (.cells #[ordV] 27)
  have n0 := World.alloc_heap_new w (.cells #[ordV] 27)
  have hVs : (w.alloc (.cells #[ordV] 27)).heap.size = w.heap.size + 1 := World.size_alloc _ _
  have HS := hid (sort_any g c w.heap.size l _ ⟨cell_box n0 rfl, by omega⟩ (hR.below b0) hn)
  have B0 := hid b0; have N0 := hid n0; have HY := hid hy; have HN := hid hN
  clear hO hR0 hR b0 n0 hgb hy hN
  go_enter Try.func24, Try.ntmps24
  go_wp2_with fail
  generalize hV : w.alloc (.cells #[ordV] 27) = V at B0 N0 HS hVs ⊢
  clear hV
  refine HS.out.mono ?_
  rintro e w2 ⟨rfl, R, hs1, hs2, hs3⟩
  have hRn : R.length = l.length := hs2.len.symm
  have hcan := gath_can hs1 hs2 HY.out
  have hpos : ∀ y ∈ R, 1 ≤ y.2 := fun y hm => HY.out y (hs2.mem.2 hm)
  have hsum : sumN R ≤ 1000000000 := by rw [← perm_sum hs2.1]; exact HN.out
  have hga : ∀ i, (∀ z ∈ gathP (R.take i), 1 ≤ z.2) ∧ sumN (gathP (R.take i)) ≤ sumN R ∧ (gathP (R.take i)).length ≤ i := fun i => by
    have g := gathP_all (R.take i).reverse (by rw [List.reverse_reverse]; exact List.Pairwise.sublist (List.take_sublist i R) hs1) (by rw [List.reverse_reverse]; exact fun y hm => hpos y (List.mem_of_mem_take hm))
    rw [List.reverse_reverse] at g
    refine ⟨g.2.1, by rw [g.2.2.1]; exact (sumN_bd R hpos i).2, ?_⟩
    induction i with
    | zero => exact Nat.le_refl _
    | succ i ih =>
      by_cases hi : i < R.length
      · have g2 := gathP_all (R.take i).reverse (by rw [List.reverse_reverse]; exact List.Pairwise.sublist (List.take_sublist i R) hs1) (by rw [List.reverse_reverse]; exact fun y hm => hpos y (List.mem_of_mem_take hm))
        rw [List.reverse_reverse] at g2
        have := ih g2
        rw [gathP_take R i hi]
        unfold stepG
        split
        · split
          · rw [List.length_append, List.length_dropLast]; show _ - 1 + 1 ≤ _; omega
          · rw [List.length_append]; show _ + 1 ≤ _; omega
        · rw [List.length_append]; show _ + 1 ≤ _; omega
      · have g2 := gathP_all (R.take i).reverse (by rw [List.reverse_reverse]; exact List.Pairwise.sublist (List.take_sublist i R) hs1) (by rw [List.reverse_reverse]; exact fun y hm => hpos y (List.mem_of_mem_take hm))
        rw [List.reverse_reverse] at g2
        have h5 := ih g2
        rw [List.take_of_length_le (by omega)] at h5 ⊢
        omega
  have hV2 : V.heap.size ≤ w2.heap.size := hs3.fr.low.size
  have hgbox : w2.cell? ⟨w.heap.size, 0, none⟩ = some ordV := by
    have h := hs3.fr.same w.heap.size (by omega) (by omega)
    exact cell_box (h.trans N0.out) rfl
  have hFr : Fr (fun q => q = g) w w2 := (Fr.of_below B0.out).trans hs3.fr
  have HRW := hid hs3.row; have HCAN := hid hcan; have HGA := hid hga; have HGB := hid hgbox; have HFR := hid hFr
  have HPOS := hid hpos
  rw [← hRn] at hn ⊢
  have hl2 : ¬ R.length = 0 := by omega
  clear hs1 hs2 hs3 hcan hpos hga hgbox hFr HS hRn
  go_wp2_with fail
  go_loopw [5, 7, 8, 14] (fun lv _ _ iv wr => ∃ i : Nat, iv = .int .i64 i ∧ i ≤ R.length ∧ wr.ownsRow V.heap.size 32 3 lv (gathP (R.take i)).length (itAll (gathP (R.take i))) ∧ Below V.heap.size w2 wr) (fun _ _ _ iv _ => R.length - (intOf iv).toNat)
  case atStart => exact ⟨0, rfl, Nat.zero_le _, World.ownsRow_nil _ _ _ _, Below.refl _ _⟩
  case round =>
    obtain ⟨i, rfl, hi, hown, hbl⟩ := hrel
    have HOw := hid hown; have HBl := hid hbl
    obtain ⟨pl, cl, rfl⟩ := owns65_form hown
    have hbox : wr.cell? ⟨w.heap.size, 0, none⟩ = some ordV := by
      have h := hbl.block w.heap.size (by omega)
      have h2 := HGB.out
      simp only [World.cell?] at h2 ⊢
      rw [h]
      exact h2
    clear hown hbl
    by_cases hlt : i < R.length
    · have hrow : Rw itCells wr g c R := by
        obtain ⟨cur, h1, h2⟩ := HRW.out.row
        exact ⟨⟨cur, (HBl.out.block g (by omega)).trans h1, h2⟩, HRW.out.fits, HRW.out.small⟩
      obtain ⟨c0, c1, c2, _, _, _⟩ := hrow.cel i hlt
      have hx1 := HPOS.out _ (List.getElem_mem hlt)
      have hxs := (sumN_le R HPOS.out i hlt).2
      have htk := gathP_take R i hlt
      obtain ⟨ga1, ga2, ga3⟩ := HGA.out i
      obtain ⟨x, hx⟩ : ∃ x, R[i] = x := ⟨_, rfl⟩
      rw [hx] at c0 c1 c2 htk hx1 hxs
      obtain ⟨⟨xk, xm⟩, xn⟩ := x
      dsimp only at c0 c1 c2 hx1 hxs
      have HTK := hid htk
      generalize gathP (R.take i) = acc at HOw HTK ga1 ga2 ga3
      have b4 := alloc_below0 wr (.cells #[.int .i64 xk, .int .i64 xm, .int .i64 xn] 32)
      have N4 := hid (World.alloc_heap_new wr (.cells #[.int .i64 xk, .int .i64 xm, .int .i64 xn] 32))
      have HO4 := hid (HOw.out.alloc (.cells #[.int .i64 xk, .int .i64 xm, .int .i64 xn] 32))
      have HX4 : Hid (pl.map Addr.block ≠ some wr.heap.size) := hid fun e => by
        have := (HOw.out.lt _ (by rw [own_eq]; exact e)).2
        omega
      have hvw : V.heap.size ≤ wr.heap.size := Nat.le_trans hV2 HBl.out.size
      have HB4 := hid (HBl.out.trans (b4.mono hvw))
      have box4 := below_cell b4 _ _ hbox
      clear b4 htk hx hbox hrow
      have HGV : Hid (V.heap.size ≤ (wr.alloc (.cells #[.int .i64 xk, .int .i64 xm, .int .i64 xn] 32)).heap.size) := hid (by rw [World.size_alloc]; omega)
      go_wp2_with fail
      clear c0 c1 c2
      generalize wr.alloc (.cells #[.int .i64 xk, .int .i64 xm, .int .i64 xn] 32) = V4 at N4 HO4 HB4 box4 HGV ⊢
      generalize wr.heap.size = X at N4 HX4 hvw ⊢
      have k0 : V4.cell? ⟨X, 0, none⟩ = some (.int .i64 xk) := cell_box N4.out rfl
      have k1 : V4.cell? ⟨X, 1, none⟩ = some (.int .i64 xm) := cell_box N4.out rfl
      have k2 : V4.cell? ⟨X, 2, none⟩ = some (.int .i64 xn) := cell_box N4.out rfl
      obtain ⟨bb, hbb⟩ : ∃ bb : Bool, (bb = true ∧ ∃ A z, acc = A ++ [z] ∧ z.1.1 = xk) ∨ (bb = false ∧ (acc = [] ∨ ∃ A z, acc = A ++ [z] ∧ z.1.1 ≠ xk)) := by
        by_cases hacc : acc = []
        · exact ⟨false, .inr ⟨rfl, .inl hacc⟩⟩
        · have hA := (List.dropLast_concat_getLast hacc).symm
          by_cases hk : (acc.getLast hacc).1.1 = xk
          · exact ⟨true, .inl ⟨rfl, _, _, hA, hk⟩⟩
          · exact ⟨false, .inr ⟨rfl, .inr ⟨_, _, hA, hk⟩⟩⟩
      have HBB := hid hbb
      clear hbb
      go_upto_region 7 with fail
      go_cut [34] (fun v wc => v = .bool bb ∧ Below V4.heap.size V4 wc)
      case first =>
        by_cases hacc : acc = []
        · have hb : bb = false := by
            rcases HBB.out with ⟨_, A, z, h, _⟩ | ⟨h, _⟩
            · rw [hacc] at h; simp at h
            · exact h
          subst hacc hb
          have mixed : Try.prog.follows .mixedOrders = true := by kernel_rfl
          go_wp2_with fail
          go_big_region_o
          all_goals (go_wp2_with fail; go_meet)
          all_goals exact ⟨rfl, (Below.refl _ V4).drew⟩
        · obtain ⟨A, z, hA⟩ : ∃ A z, acc = A ++ [z] := ⟨_, _, (List.dropLast_concat_getLast hacc).symm⟩
          subst hA
          have hLz : (A ++ [z]).length = A.length + 1 := by simp
          obtain ⟨ag, hag⟩ : ∃ ag, pl = some ⟨ag, 0, none⟩ := by
            rcases HO4.out.2 with ⟨_, h⟩ | ⟨g, _, _, h, _⟩
            · omega
            · exact ⟨g, (Value.slice.inj h).1⟩
          subst hag
          obtain ⟨⟨zk, zm⟩, zn⟩ := z
          have hzc : ∀ k u, k < 3 → (itCells ((zk, zm), zn))[k]? = some u → V4.cell? ⟨ag, A.length * 3 + k, none⟩ = some u := fun k u hk hu => by
            have h := HO4.out.cells (g := ag) rfl (A.length * 3 + k) u (by rw [itAll_at _ A.length (by omega) k hk]; simpa using hu)
            rwa [Addr.add_lit, Nat.zero_add] at h
          have d0 := hzc 0 _ (by decide) rfl; have d1 := hzc 1 _ (by decide) rfl
          rw [Nat.add_zero] at d0
          dsimp only at d0 d1
          have hb : bb = decide (cmpK (zk, zm) (xk, xm) = 0) := by
            rcases HBB.out with ⟨h, A', z', hA', hz'⟩ | ⟨h, h2⟩
            · have := (List.append_inj_right' hA' rfl)
              simp at this
              rw [h, eq_comm, decide_eq_true_iff, cmpK_zero, ← hz', ← this]
            · rcases h2 with h2 | ⟨A', z', hA', hz'⟩
              · simp at h2
              · have := (List.append_inj_right' hA' rfl)
                simp at this
                rw [h, eq_comm, decide_eq_false_iff_not, cmpK_zero]
                intro h5
                exact hz' (by rw [← this]; exact h5)
          have HH := hid fun W => hold_any (zk, zm) (xk, xm) W
          obtain ⟨cv, hcv⟩ : ∃ cv, cmpK (zk, zm) (xk, xm) = cv := ⟨_, rfl⟩
          rw [hcv] at hb HH
          dsimp only [thV] at HH
          subst hb
          have hLi : ((A ++ [((zk, zm), zn)]).length : Int) - 1 = (A.length : Int) := by omega
          have hLn : (A.length : Int) < ((A ++ [((zk, zm), zn)]).length : Int) := by omega
          have hL0 : (0 : Int) ≤ (A.length : Int) := by omega
          clear hzc hcv hacc hLz
          go_wp2_with fail
          have hne := later_some V4
          have l0 := later_cell k0; have l1 := later_cell k1; have l2 := later_cell d0; have l3 := later_cell d1; have l4 := later_cell box4
          clear k0 k1 k2 d0 d1 box4
          refine wp_region_later (by kernel_rfl) (by kernel_rfl) ?_
          repeat (go_big_quiet_step (first | (go_at_call 27; with_reducible refine calls_later (HH.out _)) | fail))
          refine wpQuiet_nil ?_
          intro _ hw'
          obtain ⟨b5, hw''⟩ := hw'
          subst hw''
          clear l0 l1 l2 l3 l4 hne
          go_wp2_with fail
          go_meet
          exact ⟨rfl, b5.below⟩
      case rest =>
      obtain ⟨rfl, hbc⟩ := hcut
      have m0 := below_cell hbc _ _ k0; have m1 := below_cell hbc _ _ k1; have m2 := below_cell hbc _ _ k2
      have HO5 := hid (owns65_below HO4.out hbc)
      have HB5 := hid (HB4.out.trans (hbc.mono HGV.out))
      have hV5 : V.heap.size ≤ wc.heap.size := Nat.le_trans HGV.out hbc.size
      have hX5 : X < wc.heap.size := Nat.lt_of_lt_of_le (Array.getElem?_eq_some_iff.1 N4.out).1 hbc.size
      clear k0 k1 k2 box4 hbc
      cases bb with
      | true =>
        obtain ⟨A, z, hA, hzk⟩ : ∃ A z, acc = A ++ [z] ∧ z.1.1 = xk := by
          rcases HBB.out with ⟨_, h⟩ | ⟨h, _⟩
          · exact h
          · cases h
        subst hA
        have hz1 := ga1 z (by simp)
        have hz2 : z.2 ≤ sumN (A ++ [z]) := by
          have h1 := sumN_nn A (fun q hq => ga1 q (List.mem_append_left _ hq))
          rw [sumN_app]
          show z.2 ≤ sumN A + (z.2 + 0)
          omega
        have htk := HTK.out
        rw [stepG_eq hzk] at htk
        have HTK2 := hid htk
        have hLz : (A ++ [z]).length = A.length + 1 := by simp
        obtain ⟨ag, hag⟩ : ∃ ag, pl = some ⟨ag, 0, none⟩ := by
          rcases HO5.out.2 with ⟨_, h⟩ | ⟨g, _, _, h, _⟩
          · omega
          · exact ⟨g, (Value.slice.inj h).1⟩
        subst hag
        obtain ⟨⟨zk, zm⟩, zn⟩ := z
        dsimp only at hz1 hz2
        have d2 : wc.cell? ⟨ag, A.length * 3 + 2, none⟩ = some (.int .i64 zn) := by
          have h := HO5.out.cells (g := ag) rfl (A.length * 3 + 2) (.int .i64 zn) (by rw [itAll_at _ A.length (by omega) 2 (by decide)]; simp [itCells])
          rwa [Addr.add_lit, Nat.zero_add] at h
        have f2 : wc.frozen? ⟨ag, A.length * 3 + 2, none⟩ = false := HO5.out.frozenAt _
        have hagV : V.heap.size ≤ ag := (HO5.out.lt ag rfl).1
        have hst := World.ownsRow.stored HO5.out (A.length * 3 + 2) (.int .i64 (zn + xn))
        have hset := itAll_set (zn + xn) (A ++ [((zk, zm), zn)]) A.length (by omega)
        rw [hset] at hst
        have hset2 : (A ++ [((zk, zm), zn)]).set A.length (((A ++ [((zk, zm), zn)])[A.length]'(by omega)).1, zn + xn) = A ++ [((zk, zm), zn + xn)] := by
          rw [List.set_append_right _ _ (Nat.le_refl _), Nat.sub_self]
          simp
        rw [hset2] at hst
        have HST := hid hst.1
        have hLi : ((A ++ [((zk, zm), zn)]).length : Int) - 1 = (A.length : Int) := by omega
        have hLn : (A.length : Int) < ((A ++ [((zk, zm), zn)]).length : Int) := by omega
        have hL2 : (A ++ [((zk, zm), zn + xn)]).length = A.length + 1 := by simp
        have HL2 := hid hL2
        clear hst hset hset2 htk HBB HO4 HOw HTK hL2
        generalize hLL : (A ++ [((zk, zm), zn)]).length = LL at hLi hLn hLz HO5 HST ⊢
        have HLZ := hid hLz
        clear hLL hLz
        go_wp2_with fail
        go_region_with ((first
          | (go_at_call 14; refine Calls.mono (sum_any zn xn _ ?_ ?_) ?_; (omega); (omega); rintro e w9 ⟨rfl, rfl⟩)
          | fail))
        all_goals
          go_wp2_with fail
          go_roundw
          case rel =>
            refine ⟨i + 1, by go_num, by omega, ?_, ?_⟩
            · rw [HTK2.out, HL2.out, ← HLZ.out]
              exact HST.out
            · exact (HB5.out.setCell (p := ⟨ag, A.length * 3 + 2, none⟩) hagV _).drew
          case measure => simp [intOf]; omega
      | false =>
        have htk : gathP (R.take (i + 1)) = acc ++ [((xk, xm), xn)] := by
          rw [HTK.out]
          rcases HBB.out with ⟨h, _⟩ | ⟨_, rfl | ⟨A, z, rfl, hz⟩⟩
          · cases h
          · rfl
          · exact stepG_ne hz
        have HTK2 := hid htk
        have b6 := alloc_below0 wc (.cells #[.int .i64 xk, .int .i64 xm, .int .i64 xn] 32)
        have n6 := World.alloc_heap_new wc (.cells #[.int .i64 xk, .int .i64 xm, .int .i64 xn] 32)
        have HO6 := hid (HO5.out.alloc (.cells #[.int .i64 xk, .int .i64 xm, .int .i64 xn] 32))
        have HN6 : Hid (∀ m u, (itCells ((xk, xm), xn))[m]? = some u → (wc.alloc (.cells #[.int .i64 xk, .int .i64 xm, .int .i64 xn] 32)).cell? ((⟨wc.heap.size, 0, none⟩ : Addr).add m) = some u) := hid fun m u hm => by
          rw [Addr.add_lit, Nat.zero_add]
          exact cell_box n6 (by rw [← hm]; simp [itCells])
        have HB6 := hid (HB5.out.trans (b6.mono hV5))
        have hV6 : V.heap.size ≤ (wc.alloc (.cells #[.int .i64 xk, .int .i64 xm, .int .i64 xn] 32)).heap.size := Nat.le_trans hV5 b6.size
        have HLT := hid fun k hk => (HO5.out.lt k hk).1
        clear b6 n6 htk HTK HBB HOw HO4
        go_wp2_with (at_builtin; refine wpList_append_lies _ rfl _ _ 29 rfl V.heap.size 32 i0 _ 3 24 Try.underlying29 hi0 hz0 hz1 hz2 rfl (by decide) (.slice pl acc.length cl) acc.length (itAll acc) rfl HO6.out ⟨wc.heap.size, 0, none⟩ 1 1 (itCells ((xk, xm), xn)) rfl rfl HN6.out (itCells_one _) (by decide) (by unfold maxLen; omega) (by omega) hV6 _ rfl ?_; intro g' cap' w' h1 h2 h3 _; have H1 := hid h1; have H2 := hid h2; clear h1 h2 h3)
        all_goals
          go_roundw
          case rel =>
            refine ⟨i + 1, by go_num, by omega, ?_, ?_⟩
            · have h5 := H1.out
              rw [HTK2.out, List.length_append, itAll_append, show itAll [((xk, xm), xn)] = itCells ((xk, xm), xn) from by show itCells _ ++ [] = _; rw [List.append_nil]]
              exact h5
            · exact HB6.out.trans ((fr_grown H2.out).below HLT.out hV6)
          case measure => simp [intOf]; omega
    · have he : i = R.length := by omega
      have ht : R.take i = R := List.take_of_length_le (by omega)
      have hgc : gathP (R.take i) = canB l := by rw [ht]; exact HCAN.out
      rw [hgc] at HOw ⊢
      clear ht hgc
      go_wp2_with fail
      go_ret
      have h5 := HOw.out
      refine ⟨_, rfl, owns65_mono (base := V.heap.size) (base' := w.heap.size) h5 (by omega), ?_⟩
      have hf := HFR.out
      exact ⟨hf.low.trans (HBl.out.mono (Nat.zero_le _)), fun k hk hA => (HBl.out.block k (by omega)).trans (hf.same k hk (fun e => hA (by rw [e]; rfl)))⟩
end Go.Proofs.Ytlbmamkkbpjafab
