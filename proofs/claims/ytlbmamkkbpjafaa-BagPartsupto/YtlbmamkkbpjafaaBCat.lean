/- What Concat answers. -/
import Derived.Test.YtlbmamkkbpjafaaBRead
import Derived.Lib.AppendZeros
namespace Go.Proofs.Ytlbmamkkbpjafaa
open Go.RowKit Go.Deep

theorem run_appI (ty base : Nat) (v : Value) (n : Nat) (xs : List Value) (w : World) (hown : w.ownsRow base 65 3 v n xs) (px : Option Addr) (m cx : Nat) (news : List Value)
    (hsrc : (px = none ∧ m = 0 ∧ cx = 0 ∧ news = []) ∨ ∃ ad, px = some ad ∧ news.length = m * 3 ∧ ∀ j u, news[j]? = some u → w.cell? (ad.add j) = some u) (h1 : ∀ u ∈ news, u.oneCell' = true) (hb : n + m ≤ 4194304) (hbase : base ≤ w.heap.size) :
    ∃ p' c' w', (Builtin.append_ #[61, 61] ty #[v, .slice px m cx]).run Try.prog w = .ok (.slice p' (n + m) c') w' ∧ w'.ownsRow base 65 3 (.slice p' (n + m) c') (n + m) (xs ++ news) ∧ w.grownBy w' v.ownBlock := by
  obtain ⟨i0, hi0, hz0, hz1, hz2⟩ := info_parts Try.info65
  rcases hsrc with ⟨rfl, rfl, rfl, rfl⟩ | ⟨ad, rfl, hl, hnews⟩
  · obtain ⟨p', c', rfl⟩ := owns65_form hown
    refine ⟨p', c', w, run_append_owned_none (P := Try.prog) (w := w) base 61 ty 65 i0 3 Try.underlying61 hi0 _ n xs hown, ?_, World.grownBy.refl _ _⟩
    rw [List.append_nil]
    exact hown
  · obtain ⟨v', w', hr, h2, h3, _, h5⟩ := run_append_own_at (P := Try.prog) w base 61 ty 65 i0 _ 3 24 Try.underlying61 hi0 hz0 hz1 hz2 rfl (by decide) v n xs hown ad m cx news hl hnews h1 (by unfold maxLen; omega) (by omega) hbase
    obtain ⟨p', c', rfl⟩ := owns65_form h2
    exact ⟨p', c', w', hr, h2, h3⟩
theorem src_its {W : World} {base : Nat} {p : Option Addr} {c : Nat} {l : List It} (h : W.ownsRow base 65 3 (.slice p l.length c) l.length (itAll l)) : (p = none ∧ l.length = 0 ∧ c = 0 ∧ itAll l = []) ∨ ∃ ad, p = some ad ∧ (itAll l).length = l.length * 3 ∧ ∀ j u, (itAll l)[j]? = some u → W.cell? (ad.add j) = some u := by
  rcases h.2 with ⟨h2, h3⟩ | ⟨g, cap, cur, h1, _⟩
  · obtain ⟨e1, _, e3⟩ := Value.slice.inj h2
    exact .inl ⟨e1, h3, e3, by rw [List.eq_nil_of_length_eq_zero h3]; rfl⟩
  · obtain ⟨e1, _, _⟩ := Value.slice.inj h1
    subst e1
    exact .inr ⟨_, rfl, itAll_len l, fun j u hj => h.cells (g := g) rfl j u hj⟩
set_option maxRecDepth 100000 in
set_option maxHeartbeats 4000000 in
theorem grow_any (n : Nat) (w : World) (hn : n ≤ 4194304) : Calls Try.prog 57 #[.slice none 0 0, .int .i64 n] w fun e w' => ∃ p c, e = .returned (.slice p 0 c) ∧ w'.ownsRow w.heap.size 65 3 (.slice p 0 c) 0 [] ∧ Below w.heap.size w w' := by
  obtain ⟨i0, hi0, hz0, hz1, hz2⟩ := info_parts Try.info65
  by_cases h0 : n = 0
  · subst h0
    go_enter Try.func57, Try.ntmps57
    go_wp2_with fail
    go_ret
    exact ⟨none, 0, rfl, World.ownsRow_nil _ _ _ _, Below.refl _ _⟩
  · have hr := Lib.run_append_nil_zeros (P := Try.prog) w 61 3 61 65 i0 _ .i64 .i64 Try.underlying61 Try.underlying3 hi0 hz0 n (by omega) (by omega) (by omega) (by rw [hz2]; omega)
    obtain ⟨G, hG⟩ : ∃ G, grownCap w n 0 65 = G := ⟨_, rfl⟩
    have hGn : n ≤ G := by rw [← hG]; exact grownCap_ge w _ _ _
    have hG63 : G ≤ maxLen := by rw [← hG]; exact grownCap_le_maxLen w n 0 65 (by unfold maxLen; omega)
    rw [hG] at hr
    obtain ⟨ROW, hROW⟩ : ∃ ROW : Array Value, Builtin.zeroCells (Value.agg #[.int .i64 0, .int .i64 0, .int .i64 0]).cells n ++ Builtin.zeroCells (Value.agg #[.int .i64 0, .int .i64 0, .int .i64 0]).cells (G - n) = ROW := ⟨_, rfl⟩
    rw [hROW] at hr
    have hRl : ROW.size = G * 3 := by
      rw [← hROW]
      simp [Builtin.zeroCells, Value.cells]
      omega
    have hown : (w.drew.alloc (.cells ROW 65)).ownsRow w.heap.size 65 3 (.slice (some ⟨w.heap.size, 0, none⟩) 0 G) 0 [] := ⟨rfl, .inr ⟨w.heap.size, G, ROW, rfl, Nat.le_refl _, World.alloc_heap_new w.drew _, Nat.zero_le _, hG63, hRl, rfl⟩⟩
    have hb : Below w.heap.size w (w.drew.alloc (.cells ROW 65)) := ((Below.refl _ w).drew).alloc (Nat.le_refl _) _
    have HO := hid hown; have HB := hid hb
    have hgi : (0 : Int) ≤ (G : Int) := by omega
    clear hG hGn hG63 hROW hRl hown hb
    go_enter Try.func57, Try.ntmps57
    go_wp2_with (at_builtin; refine Lib.wpList_append_run _ rfl _ _ _ _ rfl _ _ rfl rfl _ _ hr ?_)
    go_ret
    exact ⟨_, _, rfl, HO.out, HB.out⟩
set_option maxRecDepth 100000 in
set_option maxHeartbeats 4000000 in
theorem concat_any (S base : Nat) (p1 : Option Addr) (c1 : Nat) (l1 : List It) (p2 : Option Addr) (c2 : Nat) (l2 : List It) (w : World) (hS : w.heap[S]? = some (.cells #[.slice p1 l1.length c1, .slice p2 l2.length c2] 61 (0, 0))) (h1 : w.ownsRow base 65 3 (.slice p1 l1.length c1) l1.length (itAll l1)) (h2 : w.ownsRow base 65 3 (.slice p2 l2.length c2) l2.length (itAll l2)) (hn1 : l1.length ≤ 2097152) (hn2 : l2.length ≤ 2097152) :
    Calls Try.prog 41 #[.slice (some ⟨S, 0, none⟩) 2 2] w (NewRow w (l1 ++ l2)) := by
  have k0 : w.cell? ⟨S, 0, none⟩ = some (.slice p1 l1.length c1) := cell_box hS rfl
  have k1 : w.cell? ⟨S, 1, none⟩ = some (.slice p2 l2.length c2) := cell_box hS rfl
  have Q0 := hid k0; have Q1 := hid k1; have H1 := hid h1; have H2 := hid h2
  clear hS h1 h2
  obtain ⟨n1, hl1⟩ : ∃ n, l1.length = n := ⟨_, rfl⟩
  obtain ⟨n2, hl2⟩ : ∃ n, l2.length = n := ⟨_, rfl⟩
  have HL1 := hid hl1; have HL2 := hid hl2
  rw [hl1] at k0 hn1; rw [hl2] at k1 hn2
  clear hl1 hl2
  go_enter Try.func41, Try.ntmps41
  go_wp2_with fail
  go_loopw [3, 5, 11] (fun sv _ iv wr => wr = w ∧ ((iv = .int .i64 0 ∧ sv = .int .i64 0) ∨ (iv = .int .i64 1 ∧ sv = .int .i64 n1) ∨ (iv = .int .i64 2 ∧ sv = .int .i64 ((n1 + n2 : Nat) : Int)))) (fun _ _ iv _ => 2 - (intOf iv).toNat)
  case atStart => exact ⟨rfl, .inl ⟨rfl, rfl⟩⟩
  case round =>
    obtain ⟨rfl, ⟨rfl, rfl⟩ | ⟨rfl, rfl⟩ | ⟨rfl, rfl⟩⟩ := hrel
    · have hz : ¬ ((n1 : Int) < 0) := by omega
      go_wp2_with fail
      go_roundw
      case rel => exact ⟨trivial, .inr (.inl ⟨rfl, by first | rfl | go_num⟩)⟩
      case measure => simp [intOf]
    · have hz : ¬ ((n1 : Int) + (n2 : Int) < 0) := by omega
      go_wp2_with fail
      go_roundw
      case rel => exact ⟨trivial, .inr (.inr ⟨rfl, by go_num⟩)⟩
      case measure => simp [intOf]
    · have HGR := hid (grow_any (n1 + n2) wr (by omega))
      go_wp2_with fail
      refine HGR.out.mono ?_
      rintro e w1 ⟨p, c, rfl, ho, hb⟩
      have hO1 := owns65_below H1.out hb
      have hO2 := owns65_below H2.out hb
      obtain ⟨p3, c3, w3, hr3, ho3, hg3⟩ := run_appI 61 wr.heap.size _ 0 [] w1 ho p1 l1.length c1 (itAll l1) (src_its hO1) (itAll_one l1) (by rw [HL1.out]; omega) hb.size
      have hb3 : Below wr.heap.size wr w3 := hb.trans ((fr_grown hg3).below (fun k hk => (ho.lt k hk).1) hb.size)
      have hO2b := owns65_below H2.out hb3
      obtain ⟨p4, c4, w4, hr4, ho4, hg4⟩ := run_appI 61 wr.heap.size _ _ _ w3 ho3 p2 l2.length c2 (itAll l2) (src_its hO2b) (itAll_one l2) (by rw [HL1.out, HL2.out]; omega) hb3.size
      have hb4 : Below wr.heap.size wr w4 := hb3.trans ((fr_grown hg4).below (fun k hk => (ho3.lt k hk).1) hb3.size)
      rw [Nat.zero_add] at hr3 hr4 ho4
      rw [List.nil_append] at ho4
      have e0 := below_cell hb _ _ Q0.out
      have e1 := below_cell hb3 _ _ Q1.out
      rw [HL1.out] at e0 hr3 hr4
      rw [HL2.out] at e1 hr4
      have HB4 := hid hb4; have HO4 := hid ho4
      clear ho hb hO1 hO2 ho3 hg3 hb3 hO2b ho4 hg4 hb4 HGR k0 k1
      go_wp2_with fail
      go_loopw [6, 8, 27] (fun rv _ iv wr2 => (iv = .int .i64 0 ∧ rv = .slice p 0 c ∧ wr2 = w1) ∨ (iv = .int .i64 1 ∧ rv = .slice p3 n1 c3 ∧ wr2 = w3) ∨ (iv = .int .i64 2 ∧ rv = .slice p4 (n1 + n2) c4 ∧ wr2 = w4)) (fun _ _ iv _ => 2 - (intOf iv).toNat)
      case atStart => exact .inl ⟨rfl, rfl, rfl⟩
      case round =>
        obtain ⟨rfl, rfl, rfl⟩ | ⟨rfl, rfl, rfl⟩ | ⟨rfl, rfl, rfl⟩ := hrel
        · clear hr4
          go_wp2_with (at_builtin; refine Lib.wpList_append_run _ rfl _ _ _ _ rfl _ _ rfl rfl _ _ hr3 ?_)
          go_roundw
          case rel => exact .inr (.inl ⟨rfl, rfl, trivial⟩)
          case measure => simp [intOf]
        · clear hr3
          go_wp2_with (at_builtin; refine Lib.wpList_append_run _ rfl _ _ _ _ rfl _ _ rfl rfl _ _ hr4 ?_)
          go_roundw
          case rel => exact .inr (.inr ⟨rfl, rfl, trivial⟩)
          case measure => simp [intOf]
        · go_wp2_with fail
          go_ret
          have hl : (l1 ++ l2).length = n1 + n2 := by rw [List.length_append, HL1.out, HL2.out]
          refine ⟨p4, c4, by rw [hl]; rfl, ?_, HB4.out⟩
          have h := HO4.out
          rw [HL1.out, HL2.out] at h
          rw [hl, itAll_append]
          exact h
end Go.Proofs.Ytlbmamkkbpjafaa
