import Derived.Test.YtgidgmgpgfonnaaGreatKStIns
/- What symMerge of the library's stable sort does to a row of items, where one of the two stretches is a single item. -/
namespace Go.Proofs.YtgidgmgpgfonnaaGreat
open Go.RowKit Go.Deep

theorem sd_low {B : List Bk} (hs : Sd ltI B) (x : Bk) (p : Nat) (h : ∀ (hl : p - 1 < B.length), 0 < p → ltI B[p - 1] x = true) (hp : p ≤ B.length) : ∀ y ∈ B.take p, ltI y x = true := fun y hy => by
  obtain ⟨k, hk, rfl⟩ := List.getElem_of_mem hy
  rw [List.length_take] at hk
  rw [List.getElem_take]
  exact swoI.le_lt (sd_at hs (by omega) (by omega) (by omega) swoI) (h (by omega) (by omega))
theorem sd_high {B : List Bk} (hs : Sd ltI B) (x : Bk) (p : Nat) (h : ∀ (hl : p < B.length), Le ltI x B[p]) : ∀ y ∈ B.drop p, Le ltI x y := fun y hy => by
  obtain ⟨k, hk, rfl⟩ := List.getElem_of_mem hy
  rw [List.length_drop] at hk
  rw [List.getElem_drop]
  exact swoI.le_trans (h (by omega)) (sd_at hs (by omega) (by omega) (by omega) swoI)
theorem sd_low2 {B : List Bk} (hs : Sd ltI B) (x : Bk) (p : Nat) (h : ∀ (hl : p - 1 < B.length), 0 < p → Le ltI B[p - 1] x) (hp : p ≤ B.length) : ∀ y ∈ B.take p, Le ltI y x := fun y hy => by
  obtain ⟨k, hk, rfl⟩ := List.getElem_of_mem hy
  rw [List.length_take] at hk
  rw [List.getElem_take]
  exact swoI.le_trans (sd_at hs (by omega) (by omega) (by omega) swoI) (h (by omega) (by omega))
theorem sd_high2 {B : List Bk} (hs : Sd ltI B) (x : Bk) (p : Nat) (h : ∀ (hl : p < B.length), ltI x B[p] = true) : ∀ y ∈ B.drop p, ltI x y = true := fun y hy => by
  obtain ⟨k, hk, rfl⟩ := List.getElem_of_mem hy
  rw [List.length_drop] at hk
  rw [List.getElem_drop]
  exact swoI.lt_le (h (by omega)) (sd_at hs (by omega) (by omega) (by omega) swoI)
theorem le_of_not {x y : Bk} {cv : Int} (h : cv < 0 ↔ ltI x y = true) (hc : ¬ cv < 0) : Le ltI y x := by
  unfold Le
  cases hl : ltI x y with
  | false => rfl
  | true => exact absurd (h.2 hl) hc
theorem So.cel {w W : World} {g cap : Nat} {l : List Bk} (h : So bkCells w g cap l W) {i : Nat} {x : Bk} (hx : l[i]? = some x) : Cel W g i x := by
  obtain ⟨hi, he⟩ := List.getElem?_eq_some_iff.1 hx
  have := h.row.cel i hi
  rwa [he] at this
/-- What symMerge leaves. -/
def MrgEnd (w : World) (g cap : Nat) (X A B Y : List Bk) (e : Ending) (w' : World) : Prop := e = .returned (.tuple #[]) ∧ ∃ C, Sd ltI C ∧ Stb ltI (A ++ B) C ∧ So bkCells w g cap (X ++ C ++ Y) w'
set_option maxRecDepth 100000 in
set_option maxHeartbeats 8000000 in
theorem mrg_left (g cap gb : Nat) (X : List Bk) (x : Bk) (B Y : List Bk) (w : World) (hg : Gb w g gb) (hR : Rw bkCells w g cap (X ++ [x] ++ B ++ Y)) (hn : (X ++ [x] ++ B ++ Y).length ≤ 2097152) (hs : Sd ltI B) (a m b n : Nat) (ha : X.length = a) (hm : a + 1 = m) (hb : m + B.length = b) (hl : (X ++ [x] ++ B ++ Y).length = n) :
    Calls Tryz.prog 77 #[.slice (some ⟨g, 0, none⟩) n cap, .int .i64 a, .int .i64 m, .int .i64 b, cmpV gb] w (MrgEnd w g cap X [x] B Y) := by
  rw [hl] at hn
  have hN' : a + 1 + B.length + Y.length = n := by rw [← hl]; simp only [List.length_append, List.length_cons, List.length_nil]; omega
  have HG := hid hg; have HR := hid hR; have HS := hid hs; have HX := hid ha; have HB := hid hb
  have hbn : b ≤ n := by omega
  have hmb : m ≤ b := by omega
  have hma : (m : Int) - (a : Int) = 1 := by omega
  have HM := hid hm
  have ham : a < m := by omega
  clear hg hR hs hl ha hN' hb hm
  go_enter Tryz.func77, Tryz.ntmps77
  go_wp2_with fail
  go_loopw [10, 11, 12] (fun iv jv _ wr => ∃ (i j : Nat), iv = .int .i64 i ∧ jv = .int .i64 j ∧ m ≤ i ∧ i ≤ j ∧ j ≤ b ∧ (∀ (hl : i - m - 1 < B.length), 0 < i - m → ltI B[i - m - 1] x = true) ∧ (∀ (hl : j - m < B.length), Le ltI x B[j - m]) ∧ So bkCells w g cap (X ++ [x] ++ B ++ Y) wr) (fun iv jv _ _ => (intOf jv).toNat - (intOf iv).toNat)
  case atStart => exact ⟨m, b, rfl, rfl, Nat.le_refl _, hmb, Nat.le_refl _, fun _ hp => absurd hp (by omega), fun hl => absurd hl (by have := HB.out; omega), HR.out, Fr.refl _ _⟩
  case round =>
    obtain ⟨i, j, rfl, rfl, hmi, hij, hjb, hlo, hhi, hso⟩ := hrel
    have HLO := hid hlo; have HHI := hid hhi; have HSO := hid hso
    clear hlo hhi hso
    by_cases hlt : i < j
    · go_wp2_with fail
      have hh : ((i : Int) + (j : Int)) / 2 = (((i + j) / 2 : Nat) : Int) := by omega
      have h1 : i ≤ (i + j) / 2 := by omega
      have h2 : (i + j) / 2 < j := by omega
      rw [hh]
      clear hh
      generalize (i + j) / 2 = h at h1 h2 ⊢
      have hBl : h - m < B.length := by have := HB.out; omega
      obtain ⟨y, hy⟩ : ∃ y, B[h - m] = y := ⟨_, rfl⟩
      have gy : (X ++ [x] ++ B ++ Y)[h]? = some y := by
        have hm := HM.out
        rw [List.getElem?_append_left (by simp only [List.length_append, List.length_cons, List.length_nil, HX.out]; omega), List.getElem?_append_right (by simp only [List.length_append, List.length_cons, List.length_nil, HX.out]; omega), ← hy]
        simp only [List.length_append, List.length_cons, List.length_nil, HX.out]
        rw [show h - (a + (0 + 1)) = h - m by omega]
        exact List.getElem?_eq_getElem hBl
      have gx : (X ++ [x] ++ B ++ Y)[a]? = some x := by
        rw [← HX.out]
        simp
      obtain ⟨c0, c1, c2, c3, _, _, _, _⟩ := HSO.out.cel gy
      obtain ⟨d0, d1, d2, d3, _, _, _, _⟩ := HSO.out.cel gx
      obtain ⟨cv, hcv⟩ : ∃ cv, cmpK y.1 x.1 = cv := ⟨_, rfl⟩
      have HN : Hid (∀ W, Below wr.heap.size wr W → Calls Tryz.prog 30 #[.agg #[.string y.1, .string y.2.x.1, .int .i64 y.2.x.2, .slice y.2.a (lenF y.2.l) y.2.c], .agg #[.string x.1, .string x.2.x.1, .int .i64 x.2.x.2, .slice x.2.a (lenF x.2.l) x.2.c]] W fun e w' => e = .returned (.int .i64 cv) ∧ Below W.heap.size W w') := hid fun W _ => by
        rw [← hcv]
        exact gcmp_any y x W
      have hcl := cmp_lt y x
      rw [hcv, ← hy] at hcl
      have HCL := hid hcl
      clear gy gx hy hcv hcl
      have hz1 : (h : Int) < (n : Int) := by omega
      have hz2 : (a : Int) < (n : Int) := by omega
      go_wp2_with fail
      have hne := later_some wr
      have l0 := later_cell c0; have l1 := later_cell c1; have l2 := later_cell c2; have l3 := later_cell c3
      have m0 := later_cell d0; have m1 := later_cell d1; have m2 := later_cell d2; have m3 := later_cell d3
      clear c0 c1 c2 c3 d0 d1 d2 d3
      refine wp_region_later (by kernel_rfl) (by kernel_rfl) ?_
      repeat (go_big_quiet_step (first | (go_at_call 30; with_reducible refine calls_later (HN.out _ ?_); exact Later.below _) | fail))
      refine wpQuiet_nil ?_
      intro _ hw'
      obtain ⟨b4, hw''⟩ := hw'
      subst hw''
      have HSB := hid (HSO.out.below b4.below)
      clear l0 l1 l2 l3 m0 m1 m2 m3 hne HN
      by_cases hcv : cv < 0
      · have hup : ∀ (hl : h + 1 - m - 1 < B.length), 0 < h + 1 - m → ltI B[h + 1 - m - 1] x = true := fun hl _ => by
          have h5 := HCL.out.1 hcv
          simp only [show h + 1 - m - 1 = h - m by omega]
          exact h5
        have HUP := hid hup
        clear hup
        go_wp2_with fail
        go_roundw
        case rel => exact ⟨h + 1, j, by go_num, rfl, by omega, by omega, by omega, HUP.out, HHI.out, HSB.out⟩
        case measure => simp [intOf]; omega
      · go_wp2_with fail
        go_roundw
        case rel => exact ⟨i, h, rfl, rfl, by omega, by omega, by omega, HLO.out, fun _ => le_of_not HCL.out hcv, HSB.out⟩
        case measure => simp [intOf]; omega
    · have hpe : i = j := by omega
      subst hpe
      obtain ⟨p, hp⟩ : ∃ p, i - m = p := ⟨_, rfl⟩
      have hpB : p ≤ B.length := by have := HB.out; omega
      rw [hp] at HLO HHI
      have hput := put_ahead swoI (B.take p) (B.drop p) x (by rw [List.take_append_drop]; exact HS.out) (sd_low HS.out x p HLO.out hpB) (sd_high HS.out x p HHI.out)
      rw [List.take_append_drop] at hput
      have HPUT := hid hput
      have hia : i = a + 1 + p := by have := HM.out; omega
      have HIA := hid hia; have HP := hid hp
      clear hput hia hp
      go_wp2_with fail
      go_loopw [13] (fun kv wr2 => ∃ k : Nat, kv = .int .i64 k ∧ a ≤ k ∧ k + 1 ≤ i ∧ So bkCells w g cap (X ++ B.take (k - a) ++ x :: ((B.take p).drop (k - a) ++ B.drop p ++ Y)) wr2) (fun kv _ => i - (intOf kv).toNat)
      case atStart => exact ⟨a, rfl, Nat.le_refl _, by omega, by have h := HSO.out; simp only [Nat.sub_self, List.take_zero, List.drop_zero, List.append_nil, List.take_append_drop, List.append_assoc, List.cons_append, List.nil_append] at h ⊢; exact h⟩
      case round =>
        obtain ⟨k, rfl, hak, hki, hso⟩ := hrel
        have hia := HIA.out
        obtain ⟨t, ht⟩ : ∃ t, k - a = t := ⟨_, rfl⟩
        rw [ht] at hso
        by_cases htl : k + 1 < i
        · have htB : t < B.length := by omega
          have e1 : (B.take p).drop t = B[t] :: (B.take p).drop (t + 1) := by
            rw [List.drop_eq_getElem_cons (by rw [List.length_take]; omega), List.getElem_take]
          have hso0 : So bkCells w g cap ((X ++ B.take t) ++ x :: ([] ++ B[t] :: ((B.take p).drop (t + 1) ++ B.drop p ++ Y))) wr := by
            rw [e1] at hso
            exact hso
          have X0 := hso0.exch k (k + 1) (by rw [List.length_append, List.length_take, HX.out]; omega) (by rw [List.length_append, List.length_take, HX.out, List.length_nil]; omega)
          have e2 : (X ++ B.take t) ++ B[t] :: ([] ++ x :: ((B.take p).drop (t + 1) ++ B.drop p ++ Y)) = X ++ B.take (k + 1 - a) ++ x :: ((B.take p).drop (k + 1 - a) ++ B.drop p ++ Y) := by
            rw [show k + 1 - a = t + 1 by omega, List.take_succ_eq_append_getElem htB]
            simp only [List.append_assoc, List.cons_append, List.nil_append]
          rw [e2] at X0
          generalize B[t] = y at X0
          obtain ⟨c0, c1, c2, c3, f0, f1, f2, f3⟩ := X0.cx
          obtain ⟨d0, d1, d2, d3, k0, k1, k2, k3⟩ := X0.cy
          have HS2 := hid X0.so1
          have hz1 : (k : Int) < (i : Int) - 1 := by omega
          have hz2 : (k : Int) + 1 < (n : Int) := by omega
          have hz3 : (k : Int) < (n : Int) := by omega
          have hne : k ≠ k + 1 := by omega
          have mixed : Tryz.prog.follows .mixedOrders = true := by kernel_rfl
          clear X0 hso0 hso e1 e2 ht hia
          go_wp2_with fail
          go_big_region_o
          all_goals go_wp2
          all_goals
            go_roundw
            case rel => exact ⟨k + 1, by go_num, by omega, by omega, HS2.out⟩
            case measure => simp [intOf]; omega
        · have hte : t = p := by omega
          subst hte
          have HSF := hid hso
          have hz1 : ¬ (k : Int) < (i : Int) - 1 := by omega
          clear hso ht hia
          go_wp2_with fail
          go_end0
          refine ⟨rfl, B.take t ++ x :: B.drop t, HPUT.out.1, HPUT.out.2, ?_⟩
          have h := HSF.out
          rw [List.drop_eq_nil_of_le (by rw [List.length_take]; omega)] at h
          simp only [List.append_assoc, List.cons_append, List.nil_append] at h ⊢
          exact h
end Go.Proofs.YtgidgmgpgfonnaaGreat
