/- The walk of SigFinds. -/
import Derived.Test.YtpngaeabkmbefaaUnits
import Derived.Test.YtpngaeabkmbefaaHead
import Derived.Test.YtpngaeabkmbefaaKept
import Derived.Test.YtpngaeabkmbefaaOpenSig
namespace Go.Proofs.Ytpngaeabkmbefaa
open Go.RowKit

theorem hidden {p : Prop} (h : p) : Hid p := h

/-- The slice with this address and length holds these integers. -/
structure NumsAt (w : World) (a : Option Addr) (n : Nat) (zs : List Int) : Prop where
  len : n = zs.length
  small : n ≤ maxLen
  cells : ∀ i (h : i < zs.length), ∃ b off, a = some ⟨b, off, none⟩ ∧ w.cell? ⟨b, off + i, none⟩ = some (.int .i64 zs[i])

theorem ints_of_owns {w : World} {base n : Nat} {v : Value} {zs : List Int} (h : w.ownsRow base 3 1 v n (ints zs)) (hn : n = zs.length) (hm : n ≤ maxLen) : ∃ a cap, v = .slice a n cap ∧ IntsAt w base a n zs := by
  rcases h.2 with ⟨hv, h0⟩ | ⟨g, cap, cur, hv, hb, hh, hnc, _, hsz, hcur⟩
  · exact ⟨none, 0, by rw [hv, h0], hn, hm, fun j hj => absurd hj (by omega)⟩
  · refine ⟨_, cap, hv, hn, hm, fun j hj => ⟨g, rfl, hb, ?_⟩⟩
    have hH := holds_of_owns (zs := zs) hh (by rw [← hn]; exact hcur) j (by simpa using hj)
    rw [Nat.zero_add, getElem!_pos _ j (by simpa using hj)] at hH
    simpa using hH

/-- What holds behind k rounds of the last loop: what is left of the one list, all of the other one. -/
structure EndTo (w2 wr : World) (lo mid k : Nat) (a b : Option Addr) (zs : List Int) : Prop where
  left : ∀ j (_ : j < zs.length), k ≤ j → ∃ x, a = some ⟨x, 0, none⟩ ∧ lo ≤ x ∧ x < mid ∧ wr.cell? ⟨x, j, none⟩ = some (.int .i64 zs[j]) ∧ wr.frozen? ⟨x, j, none⟩ = false
  right : ∀ j (_ : j < zs.length), ∃ x, b = some ⟨x, 0, none⟩ ∧ mid ≤ x ∧ wr.cell? ⟨x, j, none⟩ = some (.int .i64 zs[j])
  below : Below w2.heap.size w2 wr

theorem EndTo.next {w2 wr wl : World} {lo mid k : Nat} {a b : Option Addr} {zs : List Int} (h : EndTo w2 wr lo mid k a b zs) (hlo : w2.heap.size ≤ lo) (hb : Below wr.heap.size wr wl) {x : Nat} (hx : lo ≤ x) (hm : x < mid) (u : Value) : EndTo w2 (wl.setCell ⟨x, k, none⟩ u) lo mid (k + 1) a b zs := by
  refine ⟨fun j hj hkj => ?_, fun j hj => ?_, ?_⟩
  · obtain ⟨y, hy, h1, h2, h3, h4⟩ := h.left j hj (by omega)
    refine ⟨y, hy, h1, h2, ?_, ?_⟩
    · rw [World.cell?_setCell_other wl ⟨x, k, none⟩ ⟨y, j, none⟩ _ (by intro e; simp only [Addr.mk.injEq] at e; omega), hb.cell (p := ⟨y, j, none⟩) (World.block_lt_of_cell? wr _ h3)]
      exact h3
    · rw [World.frozen?_setCell, hb.frozen (p := ⟨y, j, none⟩) (World.block_lt_of_cell? wr _ h3)]
      exact h4
  · obtain ⟨y, hy, h1, h3⟩ := h.right j hj
    refine ⟨y, hy, h1, ?_⟩
    rw [World.cell?_setCell_other wl ⟨x, k, none⟩ ⟨y, j, none⟩ _ (by intro e; simp only [Addr.mk.injEq] at e; omega), hb.cell (p := ⟨y, j, none⟩) (World.block_lt_of_cell? wr _ h3)]
    exact h3
  · exact (h.below.trans (hb.mono h.below.size)).setCell (by show w2.heap.size ≤ x; omega) _

set_option maxRecDepth 100000 in
set_option maxHeartbeats 1000000 in
theorem sigFinds_walk (a : Option Addr) (n cap : Nat) (l : List Sym) (an : Option Addr) (nn capn : Nat) (ss : List ByteArray) (ap : Option Addr) (np capp : Nat) (zs : List Int) (w : World)
    (h : SigAt w a n l) (hr : n * 48 ≤ 140737488351232) (hs : StrsAt w an nn ss) (hp : NumsAt w ap np zs) :
    Calls Try.prog 5 #[.slice a n cap, .slice an nn capn, .slice ap np capp] w fun e w' => e = .returned (.bool true) ∧ Below w.heap.size w w' := by
  have HS : Hid (SigAt w a n l) := h
  have HN : Hid (StrsAt w an nn ss) := hs
  have HP : Hid (NumsAt w ap np zs) := hp
  have hlen : Hid (n = l.length) := h.len
  have hm := h.small
  have hmn := hs.small
  have hmp := hp.small
  unfold maxLen at hm hmn hmp
  clear h hs hp
  go_enter Try.func5, Try.ntmps5
  go_wp2_with fail
  refine (head_any _).mono ?_
  rintro e w1 ⟨rfl, hb1⟩
  have HB1 : Hid (Below w.heap.size w w1) := hb1
  clear hb1
  go_wp2_with fail
  refine (lent_any a n cap l _ (HS.out.below HB1.out) hr).mono ?_
  rintro e w2 ⟨v, rfl, ⟨g, cap2, rfl, hg, hc2, hs2⟩, hb2⟩
  have HX : Hid (SigAt w2 (some ⟨g, 0, none⟩) (n + 1) (l ++ [markS])) := hs2
  have HB2 : Hid (Below w.heap.size w w2) := HB1.out.trans (hb2.mono HB1.out.size)
  clear hs2 hb2
  go_wp2
  go_loopw [9, 10, 11, 12, 13] (fun i _ _ _ _ w' => ∃ k : Nat, k ≤ nn ∧ i = .int .i64 k ∧ Below w2.heap.size w2 w') (fun i _ _ _ _ _ => nn - (intOf i).toNat)
  case atStart => exact ⟨0, Nat.zero_le _, rfl, Below.refl _ _⟩
  case round =>
    obtain ⟨k, hk, rfl, hb⟩ := hrel
    have HC : Hid (Below w2.heap.size w2 wr) := hb
    have HB : Hid (Below w.heap.size w wr) := HB2.out.trans (hb.mono HB2.out.size)
    clear hb
    by_cases hlt : k < nn
    · have hlk : k < ss.length := by have := HN.out.len; omega
      obtain ⟨b, off, rfl, hc⟩ := HN.out.cells k hlk
      have hcr : wr.cell? ⟨b, off + k, none⟩ = some (.string ss[k]) := by
        rw [HB.out.cell (p := ⟨b, off + k, none⟩) (World.block_lt_of_cell? w _ hc)]; exact hc
      clear hc
      go_wp2_with fail
      refine (sfind_any _ _ _ l _ _ ((HX.out.front hlen.out).below HC.out)).mono ?_
      rintro e w3 ⟨he, hb3⟩
      unfold FindRet at he
      subst he
      have hcr3 : w3.cell? ⟨b, off + k, none⟩ = some (.string ss[k]) := by
        rw [hb3.cell (p := ⟨b, off + k, none⟩) (World.block_lt_of_cell? wr _ hcr)]; exact hcr
      have HC3 : Hid (Below w2.heap.size w2 w3) := HC.out.trans (hb3.mono HC.out.size)
      have HB3 : Hid (Below w.heap.size w w3) := HB.out.trans (hb3.mono HB.out.size)
      clear hb3 hcr
      go_wp2_with fail
      refine (rfind_any _ _ _ l _ _ (HS.out.below HB3.out)).mono ?_
      rintro e w4 ⟨he, hw4⟩
      unfold FindRet at he
      subst he
      rw [hw4]
      clear hw4 hcr3
      go_wp2
      go_roundw
      case rel => exact ⟨k + 1, by omega, by go_num, HC3.out⟩
      case measure => simp [intOf]; omega
    · go_wp2
      go_loopw [14, 15, 16, 17, 18] (fun i _ _ _ _ w' => ∃ k : Nat, k ≤ np ∧ i = .int .i64 k ∧ Below w2.heap.size w2 w') (fun i _ _ _ _ _ => np - (intOf i).toNat)
      case atStart => exact ⟨0, Nat.zero_le _, rfl, HC.out⟩
      case round =>
        clear HC HB
        obtain ⟨k2, hk2, rfl, hb⟩ := hrel
        have HC : Hid (Below w2.heap.size w2 wr) := hb
        have HB : Hid (Below w.heap.size w wr) := HB2.out.trans (hb.mono HB2.out.size)
        clear hb
        by_cases hlt2 : k2 < np
        · have hlk : k2 < zs.length := by have := HP.out.len; omega
          obtain ⟨b, off, rfl, hc⟩ := HP.out.cells k2 hlk
          have hcr : wr.cell? ⟨b, off + k2, none⟩ = some (.int .i64 zs[k2]) := by
            rw [HB.out.cell (p := ⟨b, off + k2, none⟩) (World.block_lt_of_cell? w _ hc)]; exact hc
          clear hc
          go_wp2_with fail
          refine (sunit_any _ _ _ l _ _ ((HX.out.front hlen.out).below HC.out)).mono ?_
          rintro e w3 ⟨he, hb3⟩
          unfold UnitRet at he
          subst he
          have hcr3 : w3.cell? ⟨b, off + k2, none⟩ = some (.int .i64 zs[k2]) := by
            rw [hb3.cell (p := ⟨b, off + k2, none⟩) (World.block_lt_of_cell? wr _ hcr)]; exact hcr
          have HC3 : Hid (Below w2.heap.size w2 w3) := HC.out.trans (hb3.mono HC.out.size)
          have HB3 : Hid (Below w.heap.size w w3) := HB.out.trans (hb3.mono HB.out.size)
          clear hb3 hcr
          go_wp2_with fail
          refine (runit_any _ _ _ l _ _ (HS.out.below HB3.out)).mono ?_
          rintro e w4 ⟨he, hw4⟩
          unfold UnitRet at he
          subst he
          rw [hw4]
          clear hw4 hcr3
          go_wp2
          go_roundw
          case rel => exact ⟨k2 + 1, by omega, by go_num, HC3.out⟩
          case measure => simp [intOf]; omega
        · go_wp2_with fail
          refine (sunits_any _ _ _ l _ ((HX.out.front hlen.out).below HC.out) hr).mono ?_
          rintro e w5 ⟨a5, m5, cap5, rfl, hi5, hb5⟩
          have hm5 : m5 = (refTo l n).length := hi5.len
          have hmm : (refTo l n).length ≤ n := refTo_le l n
          have HC5 : Hid (Below w2.heap.size w2 w5) := HC.out.trans (hb5.mono HC.out.size)
          have HB5 : Hid (Below w.heap.size w w5) := HB.out.trans (hb5.mono HB.out.size)
          have HI5 : Hid (IntsAt w5 wr.heap.size a5 (refTo l n).length (refTo l n)) := by subst hm5; exact hi5
          subst hm5
          clear hi5 hb5
          go_wp2_with fail
          refine (runits_any _ _ _ l _ (HS.out.below HB5.out) hr).mono ?_
          rintro e w6 ⟨v6, rfl, ho6, hb6⟩
          obtain ⟨a6, cap6, hv6, hi6⟩ := ints_of_owns ho6 rfl (by unfold maxLen; omega)
          subst hv6
          have HE : Hid (EndTo w2 w6 wr.heap.size w5.heap.size 0 a5 a6 (refTo l n)) := by
            refine ⟨fun j hj _ => ?_, fun j hj => ?_, HC5.out.trans (hb6.mono HC5.out.size)⟩
            · obtain ⟨x, hx, h1, h2, h3⟩ := HI5.out.cells j hj
              have hlt5 := World.block_lt_of_cell? w5 _ h2
              exact ⟨x, hx, h1, hlt5, (hb6.cell (p := ⟨x, j, none⟩) hlt5).trans h2, (hb6.frozen (p := ⟨x, j, none⟩) hlt5).trans h3⟩
            · obtain ⟨x, hx, h1, h2, _⟩ := hi6.cells j hj
              exact ⟨x, hx, h1, h2⟩
          have hlo : Hid (w2.heap.size ≤ wr.heap.size) := HC.out.size
          clear ho6 hb6 hi6
          go_wp2
          go_loopw [21] (fun i w' => ∃ k : Nat, k ≤ (refTo l n).length ∧ i = .int .i64 k ∧ EndTo w2 w' wr.heap.size w5.heap.size k a5 a6 (refTo l n)) (fun i _ => (refTo l n).length - (intOf i).toNat)
          case atStart => exact ⟨0, Nat.zero_le _, rfl, HE.out⟩
          case round =>
            obtain ⟨k3, hk3, rfl, he3⟩ := hrel
            have HE3 := hidden he3
            clear he3
            by_cases hlt3 : k3 < (refTo l n).length
            · obtain ⟨x, hx, hx1, hx2, hx3, hx4⟩ := HE3.out.left k3 hlt3 (Nat.le_refl _)
              obtain ⟨y, hy, hy1, hy3⟩ := HE3.out.right k3 hlt3
              subst hx hy
              have hne := later_some wr
              have d0 := later_cell hx3
              have d1 := later_cell hy3
              have hk0 : (0 : Int) ≤ (k3 : Int) := by omega
              have hkn : (k3 : Int) < ((refTo l n).length : Int) := by omega
              go_wp2
              refine wp_region_later (by kernel_rfl) (by kernel_rfl) ?_
              repeat (go_big_quiet_step (fail))
              refine wpQuiet_nil ?_
              intro _ hw'
              obtain ⟨b2, hw''⟩ := hw'
              subst hw''
              have e1 := d0 b2
              have e2 : b2.now.frozen? ⟨x, k3, none⟩ = false := (b2.below.frozen (p := ⟨x, k3, none⟩) (World.block_lt_of_cell? wr _ hx3)).trans hx4
              clear d0 d1 hx3 hx4 hy3
              go_wp2
              go_roundw
              case rel => exact ⟨k3 + 1, by omega, by go_num, HE3.out.next hlo.out b2.below hx1 hx2 _⟩
              case measure => simp [intOf]; omega
            · have HC7 : Hid (Below w2.heap.size w2 wr) := HE3.out.below
              have HB7 : Hid (Below w.heap.size w wr) := HB2.out.trans (HC7.out.mono HB2.out.size)
              go_wp2_with fail
              refine (kept_any g cap2 a n cap l _ hc2 (HX.out.below HC7.out) (HS.out.below HB7.out) hr).mono ?_
              rintro e w8 ⟨rfl, hb8⟩
              have HB8 : Hid (Below w.heap.size w w8) := HB7.out.trans (hb8.mono HB7.out.size)
              clear hb8
              go_wp2
              go_ret
              exact ⟨rfl, HB8.out⟩
end Go.Proofs.Ytpngaeabkmbefaa
