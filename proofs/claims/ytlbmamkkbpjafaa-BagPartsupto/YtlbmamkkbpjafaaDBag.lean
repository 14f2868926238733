/- What the document's bag answers. -/
import Derived.Test.YtlbmamkkbpjafaaBList
namespace Go.Proofs.Ytlbmamkkbpjafaa
open Go.RowKit Go.Deep

set_option maxRecDepth 100000 in
set_option maxHeartbeats 2000000 in
/-- The document's place. -/
theorem rplace_any (p : Option Addr) (c : Nat) (l : List It) (x : Th) (w : World) (hI : ItsAt w p l.length l) (hn : l.length ≤ 1048576) :
    Calls Try.prog 31 #[.agg #[.slice p l.length c], thV x] w fun e w' => e = .returned (.tuple #[.int .i64 (posK x.1 l), .bool (thereB x.1 l)]) ∧ Below w.heap.size w w' := by
  obtain ⟨xk, xm⟩ := x
  dsimp only [thV]
  have b1 := alloc_below0 w (.cells #[.slice p l.length c] 27)
  have n1 := World.alloc_heap_new w (.cells #[.slice p l.length c] 27)
  have b2 := alloc_below0 (w.alloc (.cells #[.slice p l.length c] 27)) (.cells #[.int .i64 xk, .int .i64 xm] 31)
  have n2 := World.alloc_heap_new (w.alloc (.cells #[.slice p l.length c] 27)) (.cells #[.int .i64 xk, .int .i64 xm] 31)
  rw [World.size_alloc] at n2
  have n1' := (b2.block _ (Array.getElem?_eq_some_iff.1 n1).1).trans n1
  have HB := hid (b1.trans (b2.mono b1.size))
  have HI := hid (hI.below b1 |>.below b2)
  have N1 := hid n1'; have N2 := hid n2
  obtain ⟨pos, hpos⟩ : ∃ q, posK xk l = q := ⟨_, rfl⟩
  obtain ⟨th, hth⟩ : ∃ q, thereB xk l = q := ⟨_, rfl⟩
  rw [hpos, hth]
  have HPOS := hid hpos; have HTH := hid hth
  clear hpos hth b1 b2 n1 n1' n2 hI
  go_enter Try.func31, Try.ntmps31
  go_wp2_with fail
  generalize (w.alloc (.cells #[.slice p l.length c] 27)).alloc (.cells #[.int .i64 xk, .int .i64 xm] 31) = V at HB HI N1 N2 ⊢
  generalize w.heap.size = X1 at N1 N2 ⊢
  go_loopw [6] (fun iv wr => ∃ i : Nat, iv = .int .i64 i ∧ i ≤ l.length ∧ (∀ q (hq : q < l.length), q < i → l[q].1.1 < xk) ∧ Below V.heap.size V wr) (fun iv _ => l.length - (intOf iv).toNat)
  case atStart => exact ⟨0, rfl, Nat.zero_le _, fun q _ h => absurd h (by omega), Below.refl _ _⟩
  case round =>
    obtain ⟨i, rfl, hi, hlo, hbl⟩ := hrel
    have HBl := hid hbl; have HLO := hid hlo
    have c0 : wr.cell? ⟨X1, 0, none⟩ = some (.slice p l.length c) := below_cell hbl _ _ (cell_box N1.out rfl)
    have c1 : wr.cell? ⟨X1 + 1, 0, none⟩ = some (.int .i64 xk) := below_cell hbl _ _ (cell_box N2.out rfl)
    clear hbl hlo
    by_cases hlt : i < l.length
    · obtain ⟨b1, o1, rfl, e1, e2, e3⟩ := (HI.out.below HBl.out).cells i hlt
      obtain ⟨yk, hyk⟩ : ∃ q, l[i].1.1 = q := ⟨_, rfl⟩
      rw [hyk] at e1
      have HYK := hid hyk
      clear hyk e2 e3
      go_wp2_with fail
      have hne := later_some wr
      have d0 := later_cell c0; have d1 := later_cell c1; have d2 := later_cell e1
      clear c0 c1 e1
      refine wp_region_later (by kernel_rfl) (by kernel_rfl) ?_
      repeat (go_big_quiet_step (fail))
      refine wpQuiet_nil ?_
      intro _ hw'
      obtain ⟨b3, hw''⟩ := hw'
      subst hw''
      have HB3 := hid (HBl.out.trans (b3.below.mono HBl.out.size))
      have c0 := d0 b3; have c1 := d1 b3; have e1 := d2 b3
      clear d0 d1 d2 hne
      by_cases hk : yk < xk
      · go_wp2_with fail
        go_roundw
        case rel =>
          refine ⟨i + 1, by go_num, by omega, fun q hq h => ?_, HB3.out⟩
          by_cases e : q = i
          · subst e
            rw [HYK.out]
            exact hk
          · exact HLO.out q hq (by omega)
        case measure => simp [intOf]; omega
      · go_wp2_with fail
        have hne := later_some b3.now
        have d0 := later_cell c0; have d1 := later_cell c1; have d2 := later_cell e1
        clear c0 c1 e1
        refine wp_region_later (by kernel_rfl) (by kernel_rfl) ?_
        repeat (go_big_quiet_step (fail))
        refine wpQuiet_nil ?_
        intro _ hw'
        obtain ⟨b4, hw''⟩ := hw'
        subst hw''
        have HB4 := hid (HB3.out.trans (b4.below.mono HB3.out.size))
        clear d0 d1 d2 hne
        have hp : posK xk l = i := pos_eq hi HLO.out (fun h => by rw [HYK.out]; omega)
        have ht : thereB xk l = (yk == xk) := by
          unfold thereB
          rw [hp, List.getElem?_eq_getElem hlt]
          dsimp only
          rw [HYK.out]
        rw [HPOS.out] at hp
        rw [HTH.out] at ht
        subst hp
        subst ht
        go_wp2_with fail
        go_ret2
        exact ⟨rfl, HB.out.trans (HB4.out.mono HB.out.size)⟩
    · have he : i = l.length := by omega
      have hp : posK xk l = i := pos_eq hi HLO.out (fun h => absurd h hlt)
      have ht : thereB xk l = false := by
        unfold thereB
        rw [hp, List.getElem?_eq_none (by omega)]
      rw [HPOS.out] at hp
      rw [HTH.out] at ht
      subst ht
      go_wp2_with fail
      go_ret2
      exact ⟨by rw [hp, he]; rfl, HB.out.trans (HBl.out.mono HB.out.size)⟩
set_option maxRecDepth 100000 in
set_option maxHeartbeats 2000000 in
/-- The document's Count. -/
theorem rcount_any (p : Option Addr) (c : Nat) (l : List It) (x : Th) (w : World) (hI : ItsAt w p l.length l) (hn : l.length ≤ 1048576) :
    Calls Try.prog 15 #[.agg #[.slice p l.length c], thV x] w fun e w' => e = .returned (.int .i64 (cntK x.1 l)) ∧ Below w.heap.size w w' := by
  obtain ⟨xk, xm⟩ := x
  dsimp only [thV]
  have b1 := alloc_below0 w (.cells #[.slice p l.length c] 27)
  have n1 := World.alloc_heap_new w (.cells #[.slice p l.length c] 27)
  have b2 := alloc_below0 (w.alloc (.cells #[.slice p l.length c] 27)) (.cells #[.int .i64 xk, .int .i64 xm] 31)
  have n1' := (b2.block _ (Array.getElem?_eq_some_iff.1 n1).1).trans n1
  have HI := hid (hI.below b1 |>.below b2)
  have HC := hid (rplace_any p c l (xk, xm) _ HI.out hn)
  dsimp only [thV] at HC
  have HB := hid (b1.trans (b2.mono b1.size))
  have N1 := hid n1'
  obtain ⟨cn, hcn⟩ : ∃ q, cntK xk l = q := ⟨_, rfl⟩
  rw [hcn]
  have HCN := hid hcn
  clear b1 b2 n1 n1' hcn hI
  cases hth : thereB xk l with
  | false =>
    rw [hth] at HC
    have hc0 : cn = 0 := by rw [← HCN.out]; unfold cntK; rw [hth]; rfl
    subst hc0
    clear hth
    go_enter Try.func15, Try.ntmps15
    go_wp2_with fail
    refine HC.out.mono ?_
    rintro e w1 ⟨rfl, hb1⟩
    have L3 := hid (HB.out.trans (hb1.mono HB.out.size))
    clear hb1
    go_wp2
    go_ret
    exact ⟨rfl, L3.out⟩
  | true =>
    rw [hth] at HC
    obtain ⟨hp, _⟩ := there_lt hth
    have hc0 := cnt_there hth hp
    rw [HCN.out] at hc0
    obtain ⟨pos, hpos⟩ : ∃ q, posK xk l = q := ⟨_, rfl⟩
    simp only [hpos] at HC hp hc0
    obtain ⟨b1, o1, rfl, e1, e2, e3⟩ := HI.out.cells pos hp
    rw [← hc0] at e3
    have HE3 := hid e3
    clear hth hpos hc0 e1 e2 e3
    go_enter Try.func15, Try.ntmps15
    go_wp2_with fail
    refine HC.out.mono ?_
    rintro e w1 ⟨rfl, hb1⟩
    have L3 := hid (HB.out.trans (hb1.mono HB.out.size))
    have e4 := below_cell hb1 _ _ HE3.out
    have e5 := below_cell hb1 _ _ (cell_box (i := 0) N1.out rfl)
    clear hb1
    go_wp2
    go_ret
    exact ⟨rfl, L3.out⟩
set_option maxRecDepth 100000 in
set_option maxHeartbeats 2000000 in
/-- The document's Len. -/
theorem rlen_any (p : Option Addr) (c : Nat) (l : List It) (w : World) (hI : ItsAt w p l.length l) (hn : l.length ≤ 1048576) (hb : ∀ k, k ≤ l.length → -1000000000000 ≤ sumN (l.take k) ∧ sumN (l.take k) ≤ 1000000000000) :
    Calls Try.prog 12 #[.agg #[.slice p l.length c]] w fun e w' => e = .returned (.int .i64 (sumN l)) ∧ Below w.heap.size w w' := by
  have b1 := alloc_below0 w (.cells #[.slice p l.length c] 27)
  have N1 := hid (World.alloc_heap_new w (.cells #[.slice p l.length c] 27))
  have HB := hid b1
  have HI := hid (hI.below b1); have HS := hid hb
  clear hI hb b1
  go_enter Try.func12, Try.ntmps12
  go_wp2_with fail
  generalize w.alloc (.cells #[.slice p l.length c] 27) = V at HB HI N1 ⊢
  generalize w.heap.size = X1 at N1 ⊢
  go_loopw [3, 4] (fun nv iv wr => ∃ i : Nat, iv = .int .i64 i ∧ nv = .int .i64 (sumN (l.take i)) ∧ i ≤ l.length ∧ Below V.heap.size V wr) (fun _ iv _ => l.length - (intOf iv).toNat)
  case atStart => exact ⟨0, rfl, rfl, Nat.zero_le _, Below.refl _ _⟩
  case round =>
    obtain ⟨i, rfl, rfl, hi, hbl⟩ := hrel
    have HBl := hid hbl
    have c0 : wr.cell? ⟨X1, 0, none⟩ = some (.slice p l.length c) := below_cell hbl _ _ (cell_box N1.out rfl)
    clear hbl
    by_cases hlt : i < l.length
    · obtain ⟨b1, o1, rfl, e1, e2, e3⟩ := (HI.out.below HBl.out).cells i hlt
      have hs1 := HS.out (i + 1) hlt
      rw [sumN_take l i hlt] at hs1
      have hw : IntKind.i64.wrap (sumN (l.take i) + l[i].2) = sumN (l.take i) + l[i].2 := by rw [IntKind.wrap_i64]; omega
      go_wp2_with fail
      go_roundw
      case rel => exact ⟨i + 1, by go_num, by rw [sumN_take l i hlt], by omega, HBl.out⟩
      case measure => simp [intOf]; omega
    · have he : i = l.length := by omega
      have ht : l.take i = l := List.take_of_length_le (by omega)
      rw [ht]
      go_wp2_with fail
      go_ret
      exact ⟨rfl, HB.out.trans (HBl.out.mono HB.out.size)⟩
set_option maxRecDepth 100000 in
set_option maxHeartbeats 4000000 in
/-- The document's List. -/
theorem rlist_any (p : Option Addr) (c : Nat) (l : List It) (w : World) (hI : ItsAt w p l.length l) (hn : l.length ≤ 1048576) (hy : ∀ i (h : i < l.length), 0 ≤ l[i].2 ∧ l[i].2 ≤ 1000000000000) (hN : (listP l).length ≤ 1000000000) :
    Calls Try.prog 38 #[.agg #[.slice p l.length c]] w fun e w' => ∃ v', e = .returned v' ∧ w'.ownsRow w.heap.size 31 2 v' (listP l).length (thAll (listP l)) ∧ Below w.heap.size w w' := by
  obtain ⟨i0, hi0, hz0, hz1, hz2⟩ := info_parts Try.info31
  have b1 := alloc_below0 w (.cells #[.slice p l.length c] 27)
  have N1 := hid (World.alloc_heap_new w (.cells #[.slice p l.length c] 27))
  have HB := hid b1
  have HI := hid (hI.below b1); have HY := hid hy; have HN := hid hN
  have hbs := b1.size
  clear hI hy hN b1
  go_enter Try.func38, Try.ntmps38
  go_wp2_with fail
  generalize w.alloc (.cells #[.slice p l.length c] 27) = V at HB HI N1 hbs ⊢
  generalize hX1 : w.heap.size = X1 at N1 ⊢
  have hXV : X1 < V.heap.size := (Array.getElem?_eq_some_iff.1 N1.out).1
  go_loopw [3, 4] (fun lv iv wr => ∃ i : Nat, iv = .int .i64 i ∧ i ≤ l.length ∧ wr.ownsRow V.heap.size 31 2 lv (listP (l.take i)).length (thAll (listP (l.take i))) ∧ Below V.heap.size V wr) (fun _ iv _ => l.length - (intOf iv).toNat)
  case atStart => exact ⟨0, rfl, Nat.zero_le _, World.ownsRow_nil _ _ _ _, Below.refl _ _⟩
  case round =>
    obtain ⟨i, rfl, hi, hown, hbl⟩ := hrel
    have HBl := hid hbl
    have HOw := hid hown
    have c0 : wr.cell? ⟨X1, 0, none⟩ = some (.slice p l.length c) := below_cell hbl _ _ (cell_box N1.out rfl)
    clear hbl hown
    by_cases hlt : i < l.length
    · have hlen := listP_le l (i + 1)
      have htk := listP_take l i hlt
      have h0 := (HY.out i hlt).1
      have hcs := (HI.out).cells i hlt
      obtain ⟨b1, o1, rfl, e1, e2, e3⟩ := hcs
      obtain ⟨y, hyi⟩ : ∃ y, l[i] = y := ⟨_, rfl⟩
      rw [hyi] at e1 e2 e3 h0 htk
      obtain ⟨⟨yk, ym⟩, yn⟩ := y
      dsimp only at e1 e2 e3 h0 htk
      have hN2 := HN.out
      rw [htk, List.length_append, List.length_replicate] at hlen
      have HTK := hid htk
      have HE : Hid (∀ W, Below V.heap.size V W → W.cell? ⟨b1, o1 + i * 3, none⟩ = some (.int .i64 yk) ∧ W.cell? ⟨b1, o1 + i * 3 + 1, none⟩ = some (.int .i64 ym) ∧ W.cell? ⟨b1, o1 + i * 3 + 2, none⟩ = some (.int .i64 yn) ∧ W.cell? ⟨X1, 0, none⟩ = some (.slice (some ⟨b1, o1, none⟩) l.length c)) := hid fun W hW => ⟨below_cell hW _ _ e1, below_cell hW _ _ e2, below_cell hW _ _ e3, below_cell hW _ _ (cell_box N1.out rfl)⟩
      obtain ⟨P, hP⟩ : ∃ P, listP (l.take i) = P := ⟨_, rfl⟩
      rw [hP] at HOw HTK hlen
      clear htk hyi hP e1 e2 e3
      go_wp2_with fail
      clear c0
      go_loopw [3, 5] (fun lv jv wr2 => ∃ j : Nat, jv = .int .i64 j ∧ (j : Int) ≤ yn ∧ wr2.ownsRow V.heap.size 31 2 lv (P.length + j) (thAll (P ++ List.replicate j (yk, ym))) ∧ Below V.heap.size V wr2) (fun _ jv _ => yn.toNat - (intOf jv).toNat)
      case atStart => exact ⟨0, rfl, h0, by rw [show List.replicate 0 (yk, ym) = [] from rfl, List.append_nil]; exact HOw.out, HBl.out⟩
      case round =>
        obtain ⟨j, rfl, hj, hown, hbl⟩ := hrel
        have HBj := hid hbl; have HOj := hid hown
        obtain ⟨e1, e2, e3, c0⟩ := HE.out _ hbl
        by_cases hjl : (j : Int) < yn
        · have b5 := alloc_below0 wr (.cells #[.int .i64 yk, .int .i64 ym] 31)
          have HO5 := hid (HOj.out.alloc (.cells #[.int .i64 yk, .int .i64 ym] 31))
          have n5 := World.alloc_heap_new wr (.cells #[.int .i64 yk, .int .i64 ym] 31)
          have HN5 : Hid (∀ m u, (thCells (yk, ym))[m]? = some u → (wr.alloc (.cells #[.int .i64 yk, .int .i64 ym] 31)).cell? ((⟨wr.heap.size, 0, none⟩ : Addr).add m) = some u) := hid fun m u hm => by
            rw [Addr.add_lit, Nat.zero_add]
            exact cell_box n5 (by rw [← hm]; simp [thCells])
          have HB5 := hid b5
          have hone : ∀ u ∈ thCells (yk, ym), u.oneCell' = true := by
            intro v hv
            simp [thCells] at hv
            rcases hv with rfl | rfl <;> rfl
          have HLT := hid fun k hk => (HOj.out.lt k hk).1
          have hbase : V.heap.size ≤ (wr.alloc (.cells #[.int .i64 yk, .int .i64 ym] 31)).heap.size := Nat.le_trans hbl.size b5.size
          have hbnd : P.length + j + 1 ≤ 1000000000 := by omega
          clear hown hbl b5 n5
          go_wp2_with (at_builtin; refine wpList_append_lies _ rfl _ _ 23 rfl V.heap.size 31 i0 _ 2 16 Try.underlying23 hi0 hz0 hz1 hz2 rfl (by decide) u3 (P.length + j) (thAll (P ++ List.replicate j (yk, ym))) rfl HO5.out ⟨wr.heap.size, 0, none⟩ 1 1 (thCells (yk, ym)) rfl rfl HN5.out hone (by decide) (by unfold maxLen; omega) (by omega) hbase _ rfl ?_; intro g' cap' w' h1 h2 h3 _; have H1 := hid h1; have H2 := hid h2; clear h1 h2 h3)
          all_goals
            go_roundw
            case rel =>
              refine ⟨j + 1, by go_num, by omega, ?_, ?_⟩
              · have h5 := H1.out
                have e5 : thAll (P ++ List.replicate j (yk, ym)) ++ thCells (yk, ym) = thAll (P ++ List.replicate (j + 1) (yk, ym)) := by
                  rw [List.replicate_succ', ← List.append_assoc, thAll_append (P ++ List.replicate j (yk, ym))]
                  show _ = _ ++ (thCells (yk, ym) ++ [])
                  rw [List.append_nil]
                rw [e5] at h5
                exact h5
              · exact (HBj.out.trans (HB5.out.mono HBj.out.size)).trans ((fr_grown H2.out).below HLT.out hbase)
            case measure => simp [intOf]; omega
        · have hje : (j : Int) = yn := by omega
          clear hown hbl
          go_wp2_with fail
          go_roundw
          case rel =>
            refine ⟨i + 1, by go_num, by omega, ?_, HBj.out⟩
            rw [HTK.out, List.length_append, List.length_replicate]
            have h5 := HOj.out
            have h6 : yn.toNat = j := by omega
            rw [h6]
            exact h5
          case measure => simp [intOf]; omega
    · have he : i = l.length := by omega
      have ht : l.take i = l := List.take_of_length_le (by omega)
      go_wp2_with fail
      go_ret
      have h5 := HOw.out
      rw [ht] at h5
      exact ⟨_, rfl, ⟨h5.1, h5.2.imp id (fun ⟨g, cap, cur, a1, a2, a3⟩ => ⟨g, cap, cur, a1, Nat.le_trans hbs a2, a3⟩)⟩, HB.out.trans (HBl.out.mono hbs)⟩
end Go.Proofs.Ytlbmamkkbpjafaa
