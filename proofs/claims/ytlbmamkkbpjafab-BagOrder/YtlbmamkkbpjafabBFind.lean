/- Where a thing is among items in order: what BinarySearchFunc, find and count answer. -/
import Derived.Test.YtlbmamkkbpjafabBHold
import Derived.Test.YtlbmamkkbpjafabLater
namespace Go.Proofs.Ytlbmamkkbpjafab
open Go.RowKit Go.Deep

/-! ### plain -/
/-- In order, each key once. -/
def Srt (l : List It) : Prop := ∀ (i j : Nat) (hi : i < l.length) (hj : j < l.length), i < j → l[i].1.1 < l[j].1.1
/-- Where a key stands, or would have to. -/
def posK (k : Int) : List It → Nat
  | [] => 0
  | y :: r => if y.1.1 < k then posK k r + 1 else 0
def thereB (k : Int) (l : List It) : Bool := match l[posK k l]? with | some y => y.1.1 == k | none => false
theorem pos_le (k : Int) : ∀ l : List It, posK k l ≤ l.length
  | [] => Nat.le_refl _
  | y :: r => by
    have := pos_le k r
    unfold posK
    split
    · simp only [List.length_cons]; omega
    · exact Nat.zero_le _
theorem pos_low (k : Int) : ∀ (l : List It) (j : Nat) (hj : j < l.length), j < posK k l → l[j].1.1 < k
  | [], j, hj, _ => absurd hj (by simp)
  | y :: r, j, hj, h => by
    unfold posK at h
    split at h
    · rename_i hy
      cases j with
      | zero => exact hy
      | succ j => exact pos_low k r j (by simpa using hj) (by omega)
    · omega
theorem pos_at (k : Int) : ∀ (l : List It) (h : posK k l < l.length), k ≤ (l[posK k l]).1.1
  | [], h => absurd h (by simp)
  | y :: r, h => by
    by_cases hy : y.1.1 < k
    · have e : posK k (y :: r) = posK k r + 1 := if_pos hy
      have h' : posK k r < r.length := by rw [e] at h; simpa using h
      have := pos_at k r h'
      simp only [e, List.getElem_cons_succ]
      exact this
    · have e : posK k (y :: r) = 0 := if_neg hy
      simp only [e, List.getElem_cons_zero]
      omega
/-- What tells the place. -/
theorem pos_eq {k : Int} {l : List It} {i : Nat} (hi : i ≤ l.length) (h1 : ∀ j (hj : j < l.length), j < i → l[j].1.1 < k) (h2 : ∀ (hj : i < l.length), k ≤ l[i].1.1) : posK k l = i := by
  have hle := pos_le k l
  rcases Nat.lt_trichotomy (posK k l) i with h | h | h
  · have := pos_at k l (by omega)
    have := h1 (posK k l) (by omega) h
    omega
  · exact h
  · have h3 := pos_low k l i (by omega) h
    have h4 := h2 (by omega)
    omega

/-! ### memory -/
/-- The slice with this address and length holds these items. -/
structure ItsAt (w : World) (p : Option Addr) (n : Nat) (l : List It) : Prop where
  len : n = l.length
  small : n ≤ maxLen
  cells : ∀ i (h : i < l.length), ∃ b off, p = some ⟨b, off, none⟩ ∧ w.cell? ⟨b, off + i * 3, none⟩ = some (.int .i64 l[i].1.1) ∧ w.cell? ⟨b, off + i * 3 + 1, none⟩ = some (.int .i64 l[i].1.2) ∧ w.cell? ⟨b, off + i * 3 + 2, none⟩ = some (.int .i64 l[i].2)
theorem ItsAt.below {w w' : World} {p : Option Addr} {n : Nat} {l : List It} (h : ItsAt w p n l) (hb : Below w.heap.size w w') : ItsAt w' p n l :=
  ⟨h.len, h.small, fun i hi => let ⟨b, off, h1, h2, h3, h4⟩ := h.cells i hi; ⟨b, off, h1, below_cell hb _ _ h2, below_cell hb _ _ h3, below_cell hb _ _ h4⟩⟩

set_option maxRecDepth 100000 in
set_option maxHeartbeats 4000000 in
theorem search_any (p : Option Addr) (c : Nat) (l : List It) (x : Th) (g : Nat) (w : World) (hI : ItsAt w p l.length l) (hs : Srt l) (hn : l.length ≤ 1048576) (hg : w.cell? ⟨g, 0, none⟩ = some ordV) :
    Calls Try.prog 25 #[.slice p l.length c, thV x, .func (.func 26) #[] #[.pointer (some ⟨g, 0, none⟩)]] w fun e w' => e = .returned (.tuple #[.int .i64 (posK x.1 l), .bool (thereB x.1 l)]) ∧ Below w.heap.size w w' := by
  obtain ⟨xk, xm⟩ := x
  dsimp only [thV] at *
  have B0 := alloc_below0 w (.cells #[.int .i64 xk, .int .i64 xm] 26)
  have N0 := hid (World.alloc_heap_new w (.cells #[.int .i64 xk, .int .i64 xm] 26))
  have L0 := hid B0; have HI := hid (hI.below B0); have HS := hid hs; have HG := hid (below_cell B0 _ _ hg)
  clear B0 hI hs hg
  obtain ⟨pos, hpos⟩ : ∃ q, posK xk l = q := ⟨_, rfl⟩
  obtain ⟨th, hth⟩ : ∃ q, thereB xk l = q := ⟨_, rfl⟩
  rw [hpos, hth]
  have HPOS := hid hpos; have HTH := hid hth
  clear hpos hth
  go_enter Try.func25, Try.ntmps25
  go_wp2_with fail
  generalize w.alloc (.cells #[.int .i64 xk, .int .i64 xm] 26) = V0 at N0 L0 HI HG ⊢
  go_loopw [9, 10, 11] (fun iv jv _ wr => ∃ (i j : Nat), iv = .int .i64 i ∧ jv = .int .i64 j ∧ i ≤ j ∧ j ≤ l.length ∧ (∀ q (hq : q < l.length), q < i → l[q].1.1 < xk) ∧ (∀ q (hq : q < l.length), j ≤ q → xk ≤ l[q].1.1) ∧ Below V0.heap.size V0 wr) (fun iv jv _ _ => (intOf jv).toNat - (intOf iv).toNat)
  case atStart => exact ⟨0, l.length, rfl, rfl, Nat.zero_le _, Nat.le_refl _, fun q _ h => absurd h (by omega), fun q hq h => absurd hq (by omega), Below.refl _ _⟩
  case round =>
    obtain ⟨i, j, rfl, rfl, hij, hj, hlo, hhi, hb⟩ := hrel
    have HLO := hid hlo; have HHI := hid hhi; have HB := hid hb
    clear hlo hhi hb
    by_cases hlt : i < j
    · go_wp2_with fail
      have hh : ((i : Int) + (j : Int)) / 2 = (((i + j) / 2 : Nat) : Int) := by omega
      have hh1 : i ≤ (i + j) / 2 := by omega
      have hh2 : (i + j) / 2 < j := by omega
      rw [hh]
      clear hh
      generalize (i + j) / 2 = m at hh1 hh2 ⊢
      have hml : m < l.length := by omega
      obtain ⟨b1, o1, rfl, e1, e2, e3⟩ := (HI.out.below HB.out).cells m hml
      obtain ⟨y, hy⟩ : ∃ y, l[m] = y := ⟨_, rfl⟩
      rw [hy] at e1 e2 e3
      have HY := hid hy
      obtain ⟨⟨yk, ym⟩, yn⟩ := y
      dsimp only at e1 e2 e3
      obtain ⟨cv, hcv⟩ : ∃ cv, cmpK (yk, ym) (xk, xm) = cv := ⟨_, rfl⟩
      have HN : Hid (∀ W, Below wr.heap.size wr W → Calls Try.prog 26 #[.agg #[.int .i64 yk, .int .i64 ym, .int .i64 yn], .agg #[.int .i64 xk, .int .i64 xm], .pointer (some ⟨g, 0, none⟩)] W fun e w' => e = .returned (.int .i64 cv) ∧ Below W.heap.size W w') := hid fun W hW => by
        rw [← hcv]
        exact fcmp_any g ((yk, ym), yn) (xk, xm) W (below_cell hW _ _ (below_cell HB.out _ _ HG.out))
      have HCV := hid hcv
      have hne := later_some wr
      have N1 := (HB.out.block _ (Array.getElem?_eq_some_iff.1 N0.out).1).trans N0.out
      have d0 := later_cell (cell_box (i := 0) N1 rfl); have d1 := later_cell (cell_box (i := 1) N1 rfl)
      have d2 := later_cell e1; have d3 := later_cell e2; have d4 := later_cell e3
      have hm0 : (0 : Int) ≤ (m : Int) := by omega
      have hm1 : (m : Int) < (l.length : Int) := by omega
      clear hcv hy e1 e2 e3 N1
      refine wp_region_later (by kernel_rfl) (by kernel_rfl) ?_
      repeat (go_big_quiet_step (first | (go_at_call 26; with_reducible refine calls_later (HN.out _ ?_); exact Later.below _) | fail))
      refine wpQuiet_nil ?_
      intro _ hw'
      obtain ⟨b3, hw''⟩ := hw'
      subst hw''
      have HB3 := hid (HB.out.trans (b3.below.mono HB.out.size))
      clear d0 d1 d2 d3 d4 hne
      by_cases hk : yk < xk
      · have hcv : cv = -1 := by rw [← HCV.out]; unfold cmpK; rw [if_pos hk]
        subst hcv
        go_wp2
        go_roundw
        case rel =>
          refine ⟨m + 1, j, by go_num, rfl, by omega, hj, fun q hq h => ?_, HHI.out, HB3.out⟩
          by_cases e : q = m
          · subst e
            rw [HY.out]
            exact hk
          · have h1 := HS.out q m hq hml (by omega)
            rw [HY.out] at h1
            have h2 : l[q].1.1 < yk := h1
            omega
        case measure => simp [intOf]; omega
      · have hcv : 0 ≤ cv := by rw [← HCV.out]; unfold cmpK; rw [if_neg hk]; split <;> decide
        go_wp2
        go_roundw
        case rel =>
          refine ⟨i, m, rfl, rfl, hh1, by omega, HLO.out, fun q hq h => ?_, HB3.out⟩
          by_cases e : q = m
          · subst e
            rw [HY.out]
            show xk ≤ yk
            omega
          · have h1 := HS.out m q hml hq (by omega)
            rw [HY.out] at h1
            have h2 : yk < l[q].1.1 := h1
            omega
        case measure => simp [intOf]; omega
    · have hij' : i = j := by omega
      subst hij'
      have hp : pos = i := by rw [← HPOS.out]; exact pos_eq hj HLO.out (fun h => HHI.out i h (Nat.le_refl _))
      subst hp
      by_cases hil : pos < l.length
      · obtain ⟨b1, o1, rfl, e1, e2, e3⟩ := (HI.out.below HB.out).cells pos hil
        obtain ⟨y, hy⟩ : ∃ y, l[pos] = y := ⟨_, rfl⟩
        rw [hy] at e1 e2 e3
        obtain ⟨⟨yk, ym⟩, yn⟩ := y
        dsimp only at e1 e2 e3
        obtain ⟨cv, hcv⟩ : ∃ cv, cmpK (yk, ym) (xk, xm) = cv := ⟨_, rfl⟩
        have hthv : th = (cv == 0) := by
          rw [← HTH.out, ← hcv]
          unfold thereB
          rw [HPOS.out, List.getElem?_eq_getElem hil, hy]
          unfold cmpK
          dsimp only
          by_cases h1 : yk < xk
          · rw [if_pos h1]
            have : ¬ yk = xk := by omega
            simp [this]
          · rw [if_neg h1]
            by_cases h2 : xk < yk
            · rw [if_pos h2]
              have : ¬ yk = xk := by omega
              simp [this]
            · rw [if_neg h2]
              have : yk = xk := by omega
              simp [this]
        subst hthv
        have HN : Hid (∀ W, Below wr.heap.size wr W → Calls Try.prog 26 #[.agg #[.int .i64 yk, .int .i64 ym, .int .i64 yn], .agg #[.int .i64 xk, .int .i64 xm], .pointer (some ⟨g, 0, none⟩)] W fun e w' => e = .returned (.int .i64 cv) ∧ Below W.heap.size W w') := hid fun W hW => by
          rw [← hcv]
          exact fcmp_any g ((yk, ym), yn) (xk, xm) W (below_cell hW _ _ (below_cell HB.out _ _ HG.out))
        have hne := later_some wr
        have N1 := (HB.out.block _ (Array.getElem?_eq_some_iff.1 N0.out).1).trans N0.out
        have d0 := later_cell (cell_box (i := 0) N1 rfl); have d1 := later_cell (cell_box (i := 1) N1 rfl)
        have d2 := later_cell e1; have d3 := later_cell e2; have d4 := later_cell e3
        have hm0 : (0 : Int) ≤ (pos : Int) := by omega
        have hm1 : (pos : Int) < (l.length : Int) := by omega
        clear hcv hy e1 e2 e3 N1
        go_wp2_with fail
        refine wp_region_later (by kernel_rfl) (by kernel_rfl) ?_
        repeat (go_big_quiet_step (first | (go_at_call 26; with_reducible refine calls_later (HN.out _ ?_); exact Later.below _) | fail))
        refine wpQuiet_nil ?_
        intro _ hw'
        obtain ⟨b3, hw''⟩ := hw'
        subst hw''
        have HB3 := hid (HB.out.trans (b3.below.mono HB.out.size))
        clear d0 d1 d2 d3 d4 hne
        go_wp2
        go_ret2
        exact ⟨rfl, L0.out.trans (HB3.out.mono L0.out.size)⟩
      · have hthv : th = false := by
          rw [← HTH.out]
          unfold thereB
          rw [HPOS.out, List.getElem?_eq_none (by omega)]
        subst hthv
        have hpl : pos = l.length := by omega
        have hne := later_some wr
        have hm1 : ¬ (pos : Int) < (l.length : Int) := by omega
        clear hpl
        go_wp2_with fail
        refine wp_region_later (by kernel_rfl) (by kernel_rfl) ?_
        repeat (go_big_quiet_step (fail))
        refine wpQuiet_nil ?_
        intro _ hw'
        obtain ⟨b3, hw''⟩ := hw'
        subst hw''
        have HB3 := hid (HB.out.trans (b3.below.mono HB.out.size))
        clear hne
        go_wp2
        go_ret2
        exact ⟨rfl, L0.out.trans (HB3.out.mono L0.out.size)⟩
end Go.Proofs.Ytlbmamkkbpjafab
