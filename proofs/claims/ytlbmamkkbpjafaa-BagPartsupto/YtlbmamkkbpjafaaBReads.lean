/- What reads answers of a bag and of the document's bag that hold the same. -/
import Derived.Test.YtlbmamkkbpjafaaDAdd
namespace Go.Proofs.Ytlbmamkkbpjafaa
open Go.RowKit Go.Deep

theorem sumN_cons (y : It) (r : List It) : sumN (y :: r) = y.2 + sumN r := rfl
theorem sumN_app (a b : List It) : sumN (a ++ b) = sumN a + sumN b := by
  induction a with
  | nil => show sumN b = 0 + sumN b; omega
  | cons y r ih => rw [List.cons_append, sumN_cons, sumN_cons, ih]; omega
theorem sumN_nn : ∀ (l : List It), (∀ y ∈ l, 1 ≤ y.2) → 0 ≤ sumN l
  | [], _ => Int.le_refl _
  | y :: r, h => by
    have h1 := sumN_nn r (fun z hz => h z (List.mem_cons_of_mem _ hz))
    have h2 := h y List.mem_cons_self
    rw [sumN_cons]
    omega
theorem sumN_bd (l : List It) (h : ∀ y ∈ l, 1 ≤ y.2) (k : Nat) : 0 ≤ sumN (l.take k) ∧ sumN (l.take k) ≤ sumN l := by
  have h1 := sumN_nn (l.take k) (fun y hy => h y (List.mem_of_mem_take hy))
  have h2 := sumN_nn (l.drop k) (fun y hy => h y (List.mem_of_mem_drop hy))
  have h3 := sumN_app (l.take k) (l.drop k)
  rw [List.take_append_drop] at h3
  omega
theorem sumN_le (l : List It) (h : ∀ y ∈ l, 1 ≤ y.2) (i : Nat) (hi : i < l.length) : 1 ≤ l[i].2 ∧ l[i].2 ≤ sumN l := by
  have h1 := sumN_bd l h i
  have h2 := sumN_bd l h (i + 1)
  rw [sumN_take l i hi] at h2
  exact ⟨h _ (List.getElem_mem hi), by omega⟩
theorem cntK_nth {l : List It} (hs : Srt l) (i : Nat) (hi : i < l.length) : posK l[i].1.1 l = i ∧ thereB l[i].1.1 l = true ∧ cntK l[i].1.1 l = l[i].2 := by
  have hp : posK l[i].1.1 l = i := pos_eq (Nat.le_of_lt hi) (fun j hj hji => hs j i hj hi hji) (fun _ => Int.le_refl _)
  have ht : thereB l[i].1.1 l = true := by
    unfold thereB
    rw [hp, List.getElem?_eq_getElem hi]
    simp
  refine ⟨hp, ht, ?_⟩
  unfold cntK
  rw [if_pos ht, hp, List.getElem?_eq_getElem hi]
theorem owns31_below {W W' : World} {base n : Nat} {v : Value} {xs : List Value} (h : W.ownsRow base 31 2 v n xs) (hb : Below W.heap.size W W') : W'.ownsRow base 31 2 v n xs :=
  ⟨h.1, h.2.imp id (fun ⟨g, cap, cur, h1, h2, h3, h4⟩ => ⟨g, cap, cur, h1, h2, (hb.block g (Array.getElem?_eq_some_iff.1 h3).1).trans h3, h4⟩)⟩
theorem owns31_far {W : World} {base n g i : Nat} {v : Value} {xs : List Value} (h : W.ownsRow base 31 2 v n xs) (hg : v.ownBlock ≠ some g) (u : Value) : (W.setCell ⟨g, i, none⟩ u).ownsRow base 31 2 v n xs :=
  ⟨h.1, h.2.imp id (fun ⟨g', cap, cur, h1, h2, h3, h4⟩ => ⟨g', cap, cur, h1, h2, (set_far (fun e => hg (by rw [h1, ← e]; rfl)) u).trans h3, h4⟩)⟩
theorem thAll_drop : ∀ (l : List Th) (i : Nat), (thAll l).drop (i * 2) = thAll (l.drop i)
  | l, 0 => by simp
  | [], i + 1 => by simp [thAll]
  | x :: r, i + 1 => by
    show (thCells x ++ thAll r).drop ((i + 1) * 2) = thAll (r.drop i)
    rw [← thAll_drop r i, List.drop_append, List.drop_eq_nil_of_le (by simp [thCells]; omega), List.nil_append]
    congr 1
    show (i + 1) * 2 - 2 = _
    omega
theorem thAll_at (l : List Th) (i : Nat) (hi : i < l.length) (k : Nat) (hk : k < 2) : (thAll l)[i * 2 + k]? = (thCells l[i])[k]? := by
  rw [← List.getElem?_drop, thAll_drop, List.drop_eq_getElem_cons hi]
  show (thCells l[i] ++ thAll _)[k]? = _
  rw [List.getElem?_append_left hk]
set_option maxRecDepth 100000 in
set_option maxHeartbeats 8000000 in
theorem reads_any (base B : Nat) (p : Option Addr) (c : Nat) (base2 : Nat) (q : Option Addr) (d : Nat) (l : List It) (w : World) (hA : BagAt base B w l p c) (hO : w.ownsRow base2 60 3 (.slice q l.length d) l.length (itAll l)) (hs : Srt l) (hn : l.length ≤ 1048576) (hy : ∀ y ∈ l, 1 ≤ y.2) (hN : sumN l ≤ 1000000000) :
    Calls Try.prog 13 #[.pointer (some ⟨B, 0, none⟩), .agg #[.slice q l.length d]] w fun e w' => e = .returned (.bool true) ∧ Below w.heap.size w w' := by
  have hbd : ∀ k, k ≤ l.length → -1000000000000 ≤ sumN (l.take k) ∧ sumN (l.take k) ≤ 1000000000000 := fun k _ => by
    have := sumN_bd l hy k
    omega
  have hyb : ∀ i (h : i < l.length), 0 ≤ l[i].2 ∧ l[i].2 ≤ 1000000000000 := fun i h => by
    have := sumN_le l hy i h
    omega
  have hLP : (listP l).length ≤ 1000000000 := by
    have := listP_sum l (fun i h => (hyb i h).1)
    omega
  have b0 := alloc_below0 w (.cells #[.slice q l.length d] 27)
  have HA := hid (hA.below b0)
  have HO := hid (owns60_below hO b0)
  have Y0 := hid (World.alloc_heap_new w (.cells #[.slice q l.length d] 27))
  have L0 := hid b0
  have HY := hid hyb; have HBD := hid hbd; have HLP := hid hLP; have HS := hid hs
  clear b0 hA hO hyb hbd hLP hs hy hN
  go_enter Try.func13, Try.ntmps13
  go_wp2_with fail
  generalize hV : w.alloc (.cells #[.slice q l.length d] 27) = V at HA HO Y0 L0 ⊢
  clear hV
  generalize hX : w.heap.size = X at Y0 ⊢
  have hXV : X < V.heap.size := (Array.getElem?_eq_some_iff.1 Y0.out).1
  refine (items_any base B p c l V HA.out hn).mono ?_
  rintro e w1 ⟨v', rfl, ho1, hb1⟩
  obtain ⟨p', c', rfl⟩ : ∃ p' c', v' = .slice p' l.length c' := by
    rcases ho1.2 with ⟨h2, h3⟩ | ⟨g, c, _, h2, _⟩
    · exact ⟨none, 0, by rw [h2, h3]⟩
    · exact ⟨_, _, h2⟩
  have HA1 := hid (HA.out.below hb1)
  have HO1 := hid (owns60_below HO.out hb1)
  have y0 : w1.cell? ⟨X, 0, none⟩ = some (.slice q l.length d) := below_cell hb1 _ _ (cell_box Y0.out rfl)
  have R1 := hid ho1
  have L1 := hid hb1
  clear ho1 hb1
  have HC30 : Hid (∀ W, Below w1.heap.size w1 W → Calls Try.prog 30 #[.pointer (some ⟨B, 0, none⟩)] W fun e w' => e = .returned (.int .i64 (sumN l)) ∧ Below W.heap.size W w') := hid fun W hW => by
    have hB := HA1.out.below hW
    exact len_any B p c l W hB.1 (owns_its hB.2.1) hn HBD.out (fun i h => ⟨by have := (HY.out i h).1; omega, (HY.out i h).2⟩)
  have HC12 : Hid (∀ W, Below w1.heap.size w1 W → Calls Try.prog 12 #[.agg #[.slice q l.length d]] W fun e w' => e = .returned (.int .i64 (sumN l)) ∧ Below W.heap.size W w') := hid fun W hW => rlen_any q d l W (its_of60 (owns60_below HO1.out hW)) hn HBD.out
  go_wp2_with fail
  have hne := later_some w1
  have d0 := later_cell y0
  clear y0
  refine wp_region_later (by kernel_rfl) (by kernel_rfl) ?_
  repeat (go_big_quiet_step (first | (go_at_call 30; with_reducible refine calls_later (HC30.out _ ?_); exact Later.below _) | (go_at_call 12; with_reducible refine calls_later (HC12.out _ ?_); exact Later.below _) | fail))
  refine wpQuiet_nil ?_
  intro _ hw'
  obtain ⟨b3, hw''⟩ := hw'
  subst hw''
  have y0 := d0 b3
  clear d0 hne HC30 HC12
  have HA3 := hid (HA1.out.below b3.below)
  have HO3 := hid (owns60_below HO1.out b3.below)
  have R3 := hid (owns_fr R1.out (Fr.of_below (A := fun _ => False) b3.below) (fun _ _ h => h))
  have L3 := hid (L1.out.trans (b3.below.mono L1.out.size))
  generalize b3.now = V3 at y0 HA3 HO3 R3 L3 ⊢
  clear HA1 HO1 R1 L1 b3
  go_wp2_with fail
  clear y0
  go_loopw [6] (fun iv wr => ∃ (i : Nat) (xs : List Value), iv = .int .i64 i ∧ i ≤ l.length ∧ wr.ownsRow V.heap.size 65 3 (.slice p' l.length c') l.length xs ∧ (∀ j, i * 3 ≤ j → xs[j]? = (itAll l)[j]?) ∧ Below V.heap.size V wr) (fun iv _ => l.length - (intOf iv).toNat)
  case atStart => exact ⟨0, itAll l, rfl, Nat.zero_le _, R3.out, fun _ _ => rfl, L3.out⟩
  case round =>
    obtain ⟨i, xs, rfl, hi, hown, hxs, hbl⟩ := hrel
    have HBl := hid hbl; have HOw := hid hown; have HXS := hid hxs
    have y0 : wr.cell? ⟨X, 0, none⟩ = some (.slice q l.length d) := below_cell hbl _ _ (cell_box Y0.out rfl)
    clear hbl hown hxs
    by_cases hlt : i < l.length
    · obtain ⟨g, hg⟩ : ∃ g, p' = some ⟨g, 0, none⟩ := by
        rcases HOw.out.2 with ⟨_, h⟩ | ⟨g, _, _, h, _⟩
        · omega
        · exact ⟨g, (Value.slice.inj h).1⟩
      subst hg
      have hcell : ∀ k u, k < 3 → (itCells l[i])[k]? = some u → wr.cell? ⟨g, i * 3 + k, none⟩ = some u := fun k u hk hu => by
        have h := HOw.out.cells (g := g) rfl (i * 3 + k) u (by rw [HXS.out _ (by omega), itAll_at l i hlt k hk]; exact hu)
        rwa [Addr.add_lit, Nat.zero_add] at h
      obtain ⟨b1, o1, hq, e1, e2, e3⟩ := (its_of60 (owns60_below HO.out HBl.out)).cells i hlt
      subst hq
      have hcn := (cntK_nth HS.out i hlt).2.2
      obtain ⟨y, hyi⟩ : ∃ y, l[i] = y := ⟨_, rfl⟩
      rw [hyi] at e1 e2 e3 hcell hcn
      obtain ⟨⟨yk, ym⟩, yn⟩ := y
      have a0 := hcell 0 _ (by decide) rfl; have a1 := hcell 1 _ (by decide) rfl; have a2 := hcell 2 _ (by decide) rfl
      rw [Nat.add_zero] at a0
      dsimp only at e1 e2 e3 a0 a1 a2 hcn
      have HC14 : Hid (∀ W, Below wr.heap.size wr W → Calls Try.prog 14 #[.pointer (some ⟨B, 0, none⟩), .agg #[.int .i64 yk, .int .i64 ym]] W fun e w' => e = .returned (.int .i64 yn) ∧ Below W.heap.size W w') := hid fun W hW => by
        have hB := (HA.out.below HBl.out).below hW
        have h := Count_any B p c l (yk, ym) W hB.1 (owns_its hB.2.1) HS.out hn
        dsimp only [thV] at h
        rw [hcn] at h
        exact h
      clear hcell hcn hyi
      go_wp2_with fail
      have hne := later_some wr
      have d0 := later_cell y0; have d1 := later_cell e1; have d2 := later_cell e2; have d3 := later_cell e3
      have k0 := later_cell a0; have k1 := later_cell a1; have k2 := later_cell a2
      clear y0 e1 e2 e3 a0 a1 a2
      refine wp_region_later (by kernel_rfl) (by kernel_rfl) ?_
      repeat (go_big_quiet_step (first | (go_at_call 14; with_reducible refine calls_later (HC14.out _ ?_); exact Later.below _) | fail))
      refine wpQuiet_nil ?_
      intro _ hw'
      obtain ⟨b4, hw''⟩ := hw'
      subst hw''
      have hO4 := owns_fr HOw.out (Fr.of_below (A := fun _ => False) b4.below) (fun _ _ h => h)
      have f4 : b4.now.frozen? ⟨g, i * 3 + 2, none⟩ = false := hO4.frozenAt _
      have c4 := k2 b4
      have HO4 := hid hO4
      have HB4 := hid (HBl.out.trans (b4.below.mono HBl.out.size))
      have hgV : V.heap.size ≤ g := (hO4.lt g rfl).1
      clear d0 d1 d2 d3 k0 k1 k2 hne hO4 HC14
      go_wp2_with fail
      go_roundw
      case rel =>
        refine ⟨i + 1, _, by go_num, by omega, (World.ownsRow.stored HO4.out (i * 3 + 2) _).1, fun j hj => ?_, HB4.out.setCell (p := ⟨g, i * 3 + 2, none⟩) hgV _⟩
        rw [List.getElem?_set_ne (by omega)]
        exact HXS.out j (by omega)
      case measure => simp [intOf]; omega
    · have he : i = l.length := by omega
      rename World => wo
      have HAr := hid (HA.out.below HBl.out)
      have HOr := hid (owns60_below HO.out HBl.out)
      have HLr := hid (L0.out.trans (HBl.out.mono L0.out.size))
      have HYr : Hid (∀ W, Below wo.heap.size wo W → W.cell? ⟨X, 0, none⟩ = some (.slice q l.length d)) := hid fun W hW => below_cell hW _ _ y0
      clear HXS HOw HBl y0
      go_wp2_with fail
      refine (list_any B p c l wo HAr.out.1 (owns_its HAr.out.2.1) hn HBD.out HY.out HLP.out).mono ?_
      rintro e w5 ⟨v5, rfl, ho5, hb5⟩
      obtain ⟨p5, c5, rfl⟩ : ∃ p' c', v5 = .slice p' (listP l).length c' := by
        rcases ho5.2 with ⟨h2, h3⟩ | ⟨g, c, _, h2, _⟩
        · exact ⟨none, 0, by rw [h2, h3]⟩
        · exact ⟨_, _, h2⟩
      have y5 := HYr.out w5 hb5
      have R5 := hid ho5; have L5 := hid hb5
      clear ho5 hb5
      go_wp2_with fail
      refine (rlist_any q d l w5 (its_of60 (owns60_below HOr.out L5.out)) hn HY.out HLP.out).mono ?_
      rintro e w6 ⟨v6, rfl, ho6, hb6⟩
      obtain ⟨p6, c6, rfl⟩ : ∃ p' c', v6 = .slice p' (listP l).length c' := by
        rcases ho6.2 with ⟨h2, h3⟩ | ⟨g, c, _, h2, _⟩
        · exact ⟨none, 0, by rw [h2, h3]⟩
        · exact ⟨_, _, h2⟩
      have R6 := hid ho6; have L6 := hid hb6
      have R56 := hid (owns31_below R5.out hb6)
      have HLT5 : Hid (∀ k, p5.map Addr.block = some k → k < w5.heap.size) := hid fun k hk => (R5.out.lt k (by rw [own_eq]; exact hk)).2
      have HLW := hid (HLr.out.trans (L5.out.mono HLr.out.size))
      have hLP := HLP.out
      clear ho6 hb6 y5 R5
      generalize hLL : listP l = LL at R56 R6 HLT5 hLP ⊢
      clear hLL
      go_wp2_with fail
      go_loopw [9] (fun iv wr2 => ∃ (i : Nat) (xs : List Value), iv = .int .i64 i ∧ i ≤ LL.length ∧ wr2.ownsRow wo.heap.size 31 2 (.slice p5 LL.length c5) LL.length xs ∧ (∀ j, i * 2 ≤ j → xs[j]? = (thAll LL)[j]?) ∧ wr2.ownsRow w5.heap.size 31 2 (.slice p6 LL.length c6) LL.length (thAll LL) ∧ Below wo.heap.size w6 wr2) (fun iv _ => LL.length - (intOf iv).toNat)
      case atStart => exact ⟨0, _, rfl, Nat.zero_le _, R56.out, fun _ _ => rfl, R6.out, (Below.refl _ _)⟩
      case round =>
        obtain ⟨i, xs, rfl, hi, hown, hxs, hown6, hbl⟩ := hrel
        have HBl := hid hbl; have HOw := hid hown; have HXS := hid hxs; have HO6 := hid hown6
        clear hbl hown hxs hown6
        by_cases hlt : i < LL.length
        · obtain ⟨g, hg⟩ : ∃ g, p5 = some ⟨g, 0, none⟩ := by
            rcases HOw.out.2 with ⟨_, h⟩ | ⟨g, _, _, h, _⟩
            · omega
            · exact ⟨g, (Value.slice.inj h).1⟩
          subst hg
          obtain ⟨g6, hg6⟩ : ∃ g, p6 = some ⟨g, 0, none⟩ := by
            rcases HO6.out.2 with ⟨_, h⟩ | ⟨g, _, _, h, _⟩
            · omega
            · exact ⟨g, (Value.slice.inj h).1⟩
          subst hg6
          have hgg : g < w5.heap.size := HLT5.out g rfl
          have hg6 : w5.heap.size ≤ g6 := (HO6.out.lt g6 rfl).1
          have hgW : wo.heap.size ≤ g := (HOw.out.lt g rfl).1
          have e0 := HOw.out.cells (g := g) rfl (i * 2 + 0) _ (by rw [HXS.out _ (by omega), thAll_at LL i hlt 0 (by decide)]; rfl)
          have e1 := HOw.out.cells (g := g) rfl (i * 2 + 1) _ (by rw [HXS.out _ (by omega), thAll_at LL i hlt 1 (by decide)]; rfl)
          have e2 := HO6.out.cells (g := g6) rfl (i * 2 + 0) _ (by rw [thAll_at LL i hlt 0 (by decide)]; rfl)
          have e3 := HO6.out.cells (g := g6) rfl (i * 2 + 1) _ (by rw [thAll_at LL i hlt 1 (by decide)]; rfl)
          simp only [Addr.add_lit, Nat.zero_add, Nat.add_zero] at e0 e1 e2 e3
          go_wp2_with fail
          have hne := later_some wr
          have d0 := later_cell e0; have d1 := later_cell e1; have d2 := later_cell e2; have d3 := later_cell e3
          clear e0 e1 e2 e3
          refine wp_region_later (by kernel_rfl) (by kernel_rfl) ?_
          repeat (go_big_quiet_step (fail))
          refine wpQuiet_nil ?_
          intro _ hw'
          obtain ⟨b4, hw''⟩ := hw'
          subst hw''
          have hO4 := owns31_below HOw.out b4.below
          have f4 : b4.now.frozen? ⟨g, i * 2 + 1, none⟩ = false := hO4.frozenAt _
          have c4 := d1 b4
          have HO4 := hid hO4
          have HP4 := hid (owns31_below HO6.out b4.below)
          have HB4 := hid (HBl.out.trans (b4.below.mono (Nat.le_trans (Nat.le_trans L5.out.size L6.out.size) HBl.out.size)))
          clear d0 d1 d2 d3 hne hO4
          go_wp2_with fail
          go_roundw
          case rel =>
            refine ⟨i + 1, _, by go_num, by omega, (World.ownsRow.stored HO4.out (i * 2 + 1) _).1, fun j hj => ?_, ?_, HB4.out.setCell (p := ⟨g, i * 2 + 1, none⟩) hgW _⟩
            · rw [List.getElem?_set_ne (by omega)]
              exact HXS.out j (by omega)
            · exact owns31_far HP4.out (fun e => by have h7 : some g6 = some g := e; have := Option.some.inj h7; omega) _
          case measure => simp [intOf]; omega
        · have he : i = LL.length := by omega
          go_wp2_with fail
          go_ret
          exact ⟨rfl, (HLW.out.trans (L6.out.mono HLW.out.size)).trans (HBl.out.mono HLr.out.size)⟩
end Go.Proofs.Ytlbmamkkbpjafaa
