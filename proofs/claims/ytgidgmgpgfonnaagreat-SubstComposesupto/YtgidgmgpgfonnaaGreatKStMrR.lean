import Derived.Test.YtgidgmgpgfonnaaGreatKStMrg
/- What symMerge does to a row of items, where the second stretch is a single item. -/
namespace Go.Proofs.YtgidgmgpgfonnaaGreat
open Go.RowKit Go.Deep

set_option maxRecDepth 100000 in
set_option maxHeartbeats 8000000 in
theorem mrg_right (g cap gb : Nat) (X A : List Bk) (y : Bk) (Y : List Bk) (w : World) (hg : Gb w g gb) (hR : Rw bkCells w g cap (X ++ A ++ [y] ++ Y)) (hn : (X ++ A ++ [y] ++ Y).length ≤ 2097152) (hs : Sd ltI A) (hA2 : 2 ≤ A.length) (a m b n : Nat) (ha : X.length = a) (hm : a + A.length = m) (hb : m + 1 = b) (hl : (X ++ A ++ [y] ++ Y).length = n) :
    Calls Tryz.prog 77 #[.slice (some ⟨g, 0, none⟩) n cap, .int .i64 a, .int .i64 m, .int .i64 b, cmpV gb] w (MrgEnd w g cap X A [y] Y) := by
  rw [hl] at hn
  have hN' : a + A.length + 1 + Y.length = n := by rw [← hl]; simp only [List.length_append, List.length_cons, List.length_nil]; omega
  have HG := hid hg; have HR := hid hR; have HS := hid hs; have HX := hid ha; have HA : Hid (A.length = m - a) := hid (by omega)
  have hbn : m < n := by omega
  have ham : a + 2 ≤ m := by omega
  have hma : ¬ (m : Int) - (a : Int) = 1 := by omega
  have hmb : (b : Int) - (m : Int) = 1 := by omega
  clear hg hR hs hl ha hN' hb hm hA2
  go_enter Tryz.func77, Tryz.ntmps77
  go_wp2_with fail
  go_loopw [14, 15, 16] (fun iv jv _ wr => ∃ (i j : Nat), iv = .int .i64 i ∧ jv = .int .i64 j ∧ a ≤ i ∧ i ≤ j ∧ j ≤ m ∧ (∀ (hl : i - a - 1 < A.length), 0 < i - a → Le ltI A[i - a - 1] y) ∧ (∀ (hl : j - a < A.length), ltI y A[j - a] = true) ∧ So bkCells w g cap (X ++ A ++ [y] ++ Y) wr) (fun iv jv _ _ => (intOf jv).toNat - (intOf iv).toNat)
  case atStart => exact ⟨a, m, rfl, rfl, Nat.le_refl _, by omega, Nat.le_refl _, fun _ hp => absurd hp (by omega), fun hl => absurd hl (by have := HA.out; omega), HR.out, Fr.refl _ _⟩
  case round =>
    obtain ⟨i, j, rfl, rfl, hmi, hij, hjb, hlo, hhi, hso⟩ := hrel
    have HLO := hid hlo; have HHI := hid hhi; have HSO := hid hso
    clear hlo hhi hso
    by_cases hlt : i < j
    · go_wp2_with fail
      have hh : ((i : Int) + (j : Int)) / 2 = (((i + j) / 2 : Nat) : Int) := by omega
      have h1 : i ≤ (i + j) / 2 := by omega
      have h2 : (i + j) / 2 < j := by omega
      rw [hh]
      clear hh
      generalize (i + j) / 2 = h at h1 h2 ⊢
      have hBl : h - a < A.length := by have := HA.out; omega
      obtain ⟨x, hx⟩ : ∃ x, A[h - a] = x := ⟨_, rfl⟩
      have gx : (X ++ A ++ [y] ++ Y)[h]? = some x := by
        rw [List.append_assoc (X ++ A), List.getElem?_append_left (by simp only [List.length_append, HX.out]; omega), List.getElem?_append_right (by rw [HX.out]; omega), ← hx, HX.out]
        exact List.getElem?_eq_getElem hBl
      have gy : (X ++ A ++ [y] ++ Y)[m]? = some y := by
        have hml : (X ++ A).length = m := by rw [List.length_append, HX.out, HA.out]; omega
        rw [List.append_assoc (X ++ A), List.getElem?_append_right (by omega), hml, Nat.sub_self]
        rfl
      obtain ⟨c0, c1, c2, c3, _, _, _, _⟩ := HSO.out.cel gy
      obtain ⟨d0, d1, d2, d3, _, _, _, _⟩ := HSO.out.cel gx
      obtain ⟨cv, hcv⟩ : ∃ cv, cmpK y.1 x.1 = cv := ⟨_, rfl⟩
      have HN : Hid (∀ W, Below wr.heap.size wr W → Calls Tryz.prog 30 #[.agg #[.string y.1, .string y.2.x.1, .int .i64 y.2.x.2, .slice y.2.a (lenF y.2.l) y.2.c], .agg #[.string x.1, .string x.2.x.1, .int .i64 x.2.x.2, .slice x.2.a (lenF x.2.l) x.2.c]] W fun e w' => e = .returned (.int .i64 cv) ∧ Below W.heap.size W w') := hid fun W _ => by
        rw [← hcv]
        exact gcmp_any y x W
      have hcl := cmp_lt y x
      rw [hcv, ← hx] at hcl
      have HCL := hid hcl
      clear gy gx hx hcv hcl
      have hz1 : (h : Int) < (n : Int) := by omega
      have hz2 : (m : Int) < (n : Int) := by omega
      go_wp2_with fail
      have hne := later_some wr
      have l0 := later_cell c0; have l1 := later_cell c1; have l2 := later_cell c2; have l3 := later_cell c3
      have m0 := later_cell d0; have m1 := later_cell d1; have m2 := later_cell d2; have m3 := later_cell d3
      clear c0 c1 c2 c3 d0 d1 d2 d3
      refine wp_region_later (by kernel_rfl) (by kernel_rfl) ?_
      repeat (go_big_quiet_step (first | (go_at_call 30; with_reducible refine calls_later (HN.out _ ?_); exact Later.below _) | fail))
      refine wpQuiet_nil ?_
      intro _ hw'
      obtain ⟨b4, hw''⟩ := hw'
      subst hw''
      have HSB := hid (HSO.out.below b4.below)
      clear l0 l1 l2 l3 m0 m1 m2 m3 hne HN
      by_cases hcv : cv < 0
      · have hd : (!decide (cv < 0)) = false := by rw [decide_eq_true hcv]; rfl
        go_wp2_with fail
        all_goals try exact absurd ((show (!decide (cv < 0)) = true by assumption).symm.trans hd) (by decide)
        go_roundw
        case rel => exact ⟨i, h, rfl, rfl, by omega, by omega, by omega, HLO.out, fun _ => HCL.out.1 hcv, HSB.out⟩
        case measure => simp [intOf]; omega
      · have hup : ∀ (hl : h + 1 - a - 1 < A.length), 0 < h + 1 - a → Le ltI A[h + 1 - a - 1] y := fun hl _ => by
          have h5 := le_of_not HCL.out hcv
          simp only [show h + 1 - a - 1 = h - a by omega]
          exact h5
        have HUP := hid hup
        have hd : (!decide (cv < 0)) = true := by rw [decide_eq_false hcv]; rfl
        clear hup
        go_wp2_with fail
        all_goals try exact absurd (hd.symm.trans (show (!decide (cv < 0)) = false by assumption)) (by decide)
        go_roundw
        case rel => exact ⟨h + 1, j, by go_num, rfl, by omega, by omega, by omega, HUP.out, HHI.out, HSB.out⟩
        case measure => simp [intOf]; omega
    · have hpe : i = j := by omega
      subst hpe
      obtain ⟨p, hp⟩ : ∃ p, i - a = p := ⟨_, rfl⟩
      have hpB : p ≤ A.length := by have := HA.out; omega
      rw [hp] at HLO HHI
      have hput := put_in swoI (A.take p) (A.drop p) y (by rw [List.take_append_drop]; exact HS.out) (sd_low2 HS.out y p HLO.out hpB) (sd_high2 HS.out y p HHI.out)
      rw [List.take_append_drop] at hput
      have HPUT := hid hput; have HP := hid hp
      clear hput hp
      go_wp2_with fail
      go_loopw [17] (fun kv wr2 => ∃ k : Nat, kv = .int .i64 k ∧ i ≤ k ∧ k ≤ m ∧ So bkCells w g cap (X ++ A.take (k - a) ++ y :: (A.drop (k - a) ++ Y)) wr2) (fun kv _ => (intOf kv).toNat)
      case atStart => exact ⟨m, rfl, by omega, Nat.le_refl _, by
        have h := HSO.out
        rw [List.take_of_length_le (by rw [HA.out]; exact Nat.le_refl _), List.drop_eq_nil_of_le (by rw [HA.out]; exact Nat.le_refl _)]
        simp only [List.append_assoc, List.cons_append, List.nil_append] at h ⊢
        exact h⟩
      case round =>
        obtain ⟨k, rfl, hak, hki, hso⟩ := hrel
        by_cases htl : i < k
        · obtain ⟨kp, rfl⟩ : ∃ kp, k = kp + 1 := ⟨k - 1, by omega⟩
          obtain ⟨t, ht⟩ : ∃ t, kp - a = t := ⟨_, rfl⟩
          rw [show kp + 1 - a = t + 1 by omega] at hso
          have htB : t < A.length := by have := HA.out; omega
          have hso0 : So bkCells w g cap ((X ++ A.take t) ++ A[t] :: ([] ++ y :: (A.drop (t + 1) ++ Y))) wr := by
            rw [List.take_succ_eq_append_getElem htB] at hso
            simp only [List.append_assoc, List.cons_append, List.nil_append] at hso ⊢
            exact hso
          have X0 := hso0.exch kp (kp + 1) (by rw [List.length_append, List.length_take, HX.out]; omega) (by rw [List.length_append, List.length_take, HX.out, List.length_nil]; omega)
          have e2 : (X ++ A.take t) ++ y :: ([] ++ A[t] :: (A.drop (t + 1) ++ Y)) = X ++ A.take (kp - a) ++ y :: (A.drop (kp - a) ++ Y) := by
            rw [ht, List.drop_eq_getElem_cons htB]
            simp only [List.append_assoc, List.cons_append, List.nil_append]
          rw [e2] at X0
          generalize A[t] = x at X0
          obtain ⟨c0, c1, c2, c3, f0, f1, f2, f3⟩ := X0.cx
          obtain ⟨d0, d1, d2, d3, k0, k1, k2, k3⟩ := X0.cy
          have HS2 := hid X0.so2
          have hz1 : (i : Int) < (kp : Int) + 1 := by omega
          have hz2 : (kp : Int) + 1 < (n : Int) := by omega
          have hz3 : (kp : Int) < (n : Int) := by omega
          have hne : kp + 1 ≠ kp := by omega
          have mixed : Tryz.prog.follows .mixedOrders = true := by kernel_rfl
          clear X0 hso0 hso e2 ht
          go_wp2_with fail
          go_big_region_o
          all_goals go_wp2
          all_goals
            go_roundw
            case rel => exact ⟨kp, by go_num, by omega, by omega, HS2.out⟩
            case measure => simp [intOf]
        · have hte : k - a = p := by have := HP.out; omega
          rw [hte] at hso
          have HSF := hid hso
          have hz1 : ¬ (i : Int) < (k : Int) := by omega
          clear hso hte
          go_wp2_with fail
          go_end0
          refine ⟨rfl, A.take p ++ y :: A.drop p, HPUT.out.1, HPUT.out.2, ?_⟩
          have h := HSF.out
          simp only [List.append_assoc, List.cons_append] at h ⊢
          exact h
end Go.Proofs.YtgidgmgpgfonnaaGreat
