import Derived.Test.YtfnfbljijkjkjaaKSoF
/- Ways that lie in memory, and what the statements' same says of two that are alike. -/
namespace Go.Proofs.Ytfnfbljijkjkjaa
open Go.RowKit Go.Deep

/-- The terms' cells lie in this block, from its head on. -/
def CellsAt (w : World) (g : Nat) (ks : List Kv) : Prop := ∀ i u, (kvCells ks)[i]? = some u → w.cell? ⟨g, i, none⟩ = some u
/-- A way in memory, wherever it lies. -/
structure WyAt (w : World) (v : Value) (V : Wy) : Prop where
  is : ∃ a c ks la lc, v = .agg (wayC V.act V.bv V.t.1 a (lenF V.t.2) c la V.ls.length lc V.sym) ∧ TmAt w V.t.1 a c V.t.2 ∧ ks.map Kv.tn = flatL V.ls ∧ (∀ k ∈ ks, TmAt w k.x k.a k.c k.l) ∧ (V.ls.length = 0 ∨ ∃ g, la = some ⟨g, 0, none⟩ ∧ CellsAt w g ks) ∧ V.ls.length ≤ lc
theorem CellsAt.below {w w' : World} {g : Nat} {ks : List Kv} (h : CellsAt w g ks) (hb : Below w.heap.size w w') : CellsAt w' g ks := fun i u hu => below_cell hb _ _ (h i u hu)
theorem WyAt.below {w w' : World} {v : Value} {V : Wy} (h : WyAt w v V) (hb : Below w.heap.size w w') : WyAt w' v V := by
  obtain ⟨a, c, ks, la, lc, h1, h2, h3, h4, h5, h6⟩ := h.is
  refine ⟨a, c, ks, la, lc, h1, h2.below hb, h3, fun k hk => (h4 k hk).below hb, ?_, h6⟩
  rcases h5 with h5 | ⟨g, h7, h8⟩
  · exact .inl h5
  · exact .inr ⟨g, h7, h8.below hb⟩
theorem SepL.tms {w : World} : ∀ {ks : List Kv} {A : Nat → Prop}, SepL w ks A → ∀ k ∈ ks, TmAt w k.x k.a k.c k.l
  | [], _, _, k, hk => absurd hk (by simp)
  | _ :: _, _, ⟨_, _, _, _, h3, h4⟩, k, hk => by
    rcases List.mem_cons.1 hk with rfl | hk
    · exact h3.tm
    · exact SepL.tms h4 k hk
theorem OneAt.wy {base : Nat} {w : World} {v : Value} {V : Wy} (h : OneAt base w v V) : WyAt w v V := by
  obtain ⟨tk, ks, la, lc, h1, h2, h3, h4, h5⟩ := h.is
  have ht := h5.tms
  subst h1
  obtain ⟨act, bv, t, ls, sym⟩ := V
  dsimp only at *
  subst h2
  refine ⟨tk.a, tk.c, ks, la, lc, rfl, ht tk (by simp), h3, fun k hk => ht k (by simp [hk]), ?_, ?_⟩
  · rcases h4 with h4 | ⟨g, g1, g2, g3, g4⟩
    · exact .inl h4.1
    · exact .inr ⟨g, g1, fun i u hu => g4.at hu⟩
  · rcases h4 with h4 | ⟨g, g1, g2, g3, g4⟩
    · show ls.length ≤ lc; omega
    · exact Nat.le_of_eq g3.symm

/-- The cells of an equation, and its two terms. -/
structure EqAt (w : World) (g j : Nat) (p q : Tn) (a b : Option Addr) (c d : Nat) : Prop where
  c0 : w.cell? ⟨g, j * 6, none⟩ = some (.string p.1.1)
  c1 : w.cell? ⟨g, j * 6 + 1, none⟩ = some (.int .i64 p.1.2)
  c2 : w.cell? ⟨g, j * 6 + 2, none⟩ = some (.slice a (lenF p.2) c)
  c3 : w.cell? ⟨g, j * 6 + 3, none⟩ = some (.string q.1.1)
  c4 : w.cell? ⟨g, j * 6 + 4, none⟩ = some (.int .i64 q.1.2)
  c5 : w.cell? ⟨g, j * 6 + 5, none⟩ = some (.slice b (lenF q.2) d)
  l : TmAt w p.1 a c p.2
  r : TmAt w q.1 b d q.2
theorem EqAt.below {w w' : World} {g j : Nat} {p q : Tn} {a b : Option Addr} {c d : Nat} (h : EqAt w g j p q a b c d) (hb : Below w.heap.size w w') : EqAt w' g j p q a b c d :=
  ⟨below_cell hb _ _ h.c0, below_cell hb _ _ h.c1, below_cell hb _ _ h.c2, below_cell hb _ _ h.c3, below_cell hb _ _ h.c4, below_cell hb _ _ h.c5, h.l.below hb, h.r.below hb⟩
theorem flat_at : ∀ (ls : List (Tn × Tn)) (j : Nat) (h : j < ls.length), (flatL ls)[2 * j]? = some ls[j].1 ∧ (flatL ls)[2 * j + 1]? = some ls[j].2
  | [], j, h => absurd h (by simp)
  | p :: r, 0, _ => ⟨rfl, rfl⟩
  | p :: r, j + 1, h => by
    have ih := flat_at r j (by simpa using h)
    have e : flatL (p :: r) = p.1 :: p.2 :: flatL r := rfl
    rw [e, show 2 * (j + 1) = 2 * j + 1 + 1 by omega, show 2 * j + 1 + 1 + 1 = (2 * j + 1) + 1 + 1 by omega]
    simp only [List.getElem?_cons_succ, List.getElem_cons_succ]
    exact ih
theorem eq_at {w : World} {g : Nat} {ks : List Kv} {ls : List (Tn × Tn)} (hc : CellsAt w g ks) (hk : ks.map Kv.tn = flatL ls) (ht : ∀ k ∈ ks, TmAt w k.x k.a k.c k.l) {j : Nat} (hj : j < ls.length) : ∃ a b c d, EqAt w g j ls[j].1 ls[j].2 a b c d := by
  have hl : ks.length = 2 * ls.length := by
    have := congrArg List.length hk
    rwa [List.length_map, flat_len] at this
  obtain ⟨f1, f2⟩ := flat_at ls j hj
  rw [← hk, List.getElem?_map] at f1 f2
  rw [List.getElem?_eq_getElem (by omega), Option.map_some, Option.some.injEq] at f1 f2
  have a1 := kv_at ks (2 * j) (by omega)
  have a2 := kv_at ks (2 * j + 1) (by omega)
  rw [show 2 * j * 3 = j * 6 by omega] at a1
  rw [show (2 * j + 1) * 3 = j * 6 + 3 by omega] at a2
  have t1 := ht ks[2 * j] (List.getElem_mem _)
  have t2 := ht ks[2 * j + 1] (List.getElem_mem _)
  rw [← f1, ← f2]
  exact ⟨ks[2 * j].a, ks[2 * j + 1].a, ks[2 * j].c, ks[2 * j + 1].c, hc _ _ a1.1, hc _ _ a1.2.1, hc _ _ a1.2.2, hc _ _ a2.1, hc _ _ a2.2.1, hc _ _ a2.2.2, t1, t2⟩

set_option maxRecDepth 100000 in
set_option maxHeartbeats 4000000 in
theorem same_true (V : Wy) (v1 v2 : Value) (w : World) (h1 : WyAt w v1 V) (h2 : WyAt w v2 V) (hm : V.ls.length ≤ 1048576) :
    Calls Try.prog 11 #[v1, v2] w fun e w' => e = .returned (.bool true) ∧ Below w.heap.size w w' := by
  obtain ⟨act, bv, ⟨⟨tn, ts⟩, tl⟩, ls, sym⟩ := V
  obtain ⟨a, c, ks, la, lc, rfl, hT, hks, hTs, hrow, _⟩ := h1.is
  obtain ⟨b, d, js, lb, ld, rfl, hU, hjs, hUs, hrow2, _⟩ := h2.is
  dsimp only at *
  obtain ⟨n, hn⟩ : ∃ n, ls.length = n := ⟨_, rfl⟩
  obtain ⟨b1, b2, hb0⟩ := two_new w (wayC act bv (tn, ts) a (lenF tl) c la n lc sym) 36 (wayC act bv (tn, ts) b (lenF tl) d lb n ld sym) 36
  have HE := hid fun (W : World) (hW : Below w.heap.size w W) => exact_any (tn, ts) tl a b c d W (hT.below hW) (hU.below hW)
  have HEJ : Hid (∀ j (hj : j < n), ∃ g g' p q a1 b1 c1 d1 a2 b2 c2 d2, la = some ⟨g, 0, none⟩ ∧ lb = some ⟨g', 0, none⟩ ∧ EqAt w g j p q a1 b1 c1 d1 ∧ EqAt w g' j p q a2 b2 c2 d2) := hid (fun j hj => by
    rcases hrow with h0 | ⟨g, hg, hc⟩
    · omega
    · rcases hrow2 with h0 | ⟨g', hg', hc'⟩
      · omega
      · obtain ⟨a1, b1, c1, d1, e1⟩ := eq_at hc hks hTs (j := j) (by omega)
        obtain ⟨a2, b2, c2, d2, e2⟩ := eq_at hc' hjs hUs (j := j) (by omega)
        exact ⟨g, g', _, _, a1, b1, c1, d1, a2, b2, c2, d2, hg, hg', e1, e2⟩)
  rw [hn] at hm ⊢
  have HX := hid b1; have HY := hid b2; have HB0 := hid hb0
  have hbb : (bv.toList == bv.toList) = true := by simp
  have haa : (act != act) = false := by simp
  have hss : (sym != sym) = false := by simp
  have hnn : ((n : Int) != (n : Int)) = false := by simp
  clear h1 h2 hT hU hks hjs hTs hUs hrow hrow2 b1 b2 hb0 hn
  unfold wayC at *
  go_enter Try.func11, Try.ntmps11
  go_wp2_with (go_at_call 25; refine (HE.out _ HB0.out).mono ?_; rintro e w1 ⟨rfl, hb1⟩; have HB1 := hid (HB0.out.trans (hb1.mono HB0.out.size)); have HX1 := hid (HX.out.below hb1); have HY1 := hid (HY.out.below hb1); clear hb1)
  go_loopw [5] (fun i wr => ∃ j : Nat, j ≤ n ∧ i = .int .i64 j ∧ Below w.heap.size w wr ∧ Box wr w.heap.size 36 #[.int .i64 act, .string bv, .string tn, .int .i64 ts, .slice a (lenF tl) c, .slice la n lc, .int .i64 sym] ∧ Box wr (w.heap.size + 1) 36 #[.int .i64 act, .string bv, .string tn, .int .i64 ts, .slice b (lenF tl) d, .slice lb n ld, .int .i64 sym]) (fun i _ => n - (intOf i).toNat)
  case atStart => exact ⟨0, Nat.zero_le _, rfl, HB1.out, HX1.out, HY1.out⟩
  case round =>
    obtain ⟨j, hj, rfl, hb, hx, hy⟩ := hrel
    have HB := hid hb; have HXR := hid hx; have HYR := hid hy
    have x5 : wr.cell? ⟨w.heap.size, 5, none⟩ = some (.slice la n lc) := hx.c 5
    have y5 : wr.cell? ⟨w.heap.size + 1, 5, none⟩ = some (.slice lb n ld) := hy.c 5
    by_cases hlt : j < n
    · obtain ⟨g, g', ⟨⟨pn, ps⟩, pl⟩, ⟨⟨qn, qs⟩, ql⟩, a1, b1, c1, d1, a2, b2, c2, d2, rfl, rfl, e1, e2⟩ := HEJ.out j hlt
      have f1 := e1.below hb
      have f2 := e2.below hb
      have HF1 := hid f1; have HF2 := hid f2
      have HA := hid fun (W : World) (hW : Below wr.heap.size wr W) => exact_any (pn, ps) pl a1 a2 c1 c2 W (f1.l.below hW) (f2.l.below hW)
      have HC := hid fun (W : World) (hW : Below wr.heap.size wr W) => exact_any (qn, qs) ql b1 b2 d1 d2 W (f1.r.below hW) (f2.r.below hW)
      have hls := later_some wr
      have k0 := later_cell f1.c0; have k1 := later_cell f1.c1; have k2 := later_cell f1.c2; have k3 := later_cell f1.c3; have k4 := later_cell f1.c4; have k5 := later_cell f1.c5
      have m0 := later_cell f2.c0; have m1 := later_cell f2.c1; have m2 := later_cell f2.c2; have m3 := later_cell f2.c3; have m4 := later_cell f2.c4; have m5 := later_cell f2.c5
      have kx := later_cell x5; have ky := later_cell y5
      dsimp only at k0 k1 k2 k3 k4 k5 m0 m1 m2 m3 m4 m5
      have hk0 : (0 : Int) ≤ (j : Int) := by omega
      have hkn : (j : Int) < (n : Int) := by omega
      clear f1 f2 e1 e2 hb hx hy
      go_upto_region 6 with fail
      refine wp_region_later (by kernel_rfl) (by kernel_rfl) ?_
      repeat (go_big_quiet_step (first | (go_at_call 25; (with_reducible refine calls_later (HA.out _ ?_)); exact Later.below _) | fail))
      refine wpQuiet_nil ?_
      intro _ hw'
      obtain ⟨v2, hw''⟩ := hw'
      subst hw''
      have bl2 := v2.below
      have f1 := HF1.out.below bl2
      have f2 := HF2.out.below bl2
      have x6 := below_cell bl2 _ _ x5
      have y6 := below_cell bl2 _ _ y5
      have HXS := hid (HXR.out.below bl2); have HYS := hid (HYR.out.below bl2)
      have HBS := hid (HB.out.trans (bl2.mono HB.out.size))
      have HC2 := hid fun (W : World) (hW : Below v2.now.heap.size v2.now W) => HC.out W (bl2.trans (hW.mono bl2.size))
      clear k0 k1 k2 k3 k4 k5 m0 m1 m2 m3 m4 m5 kx ky x5 y5 hls HA HC HF1 HF2 HXR HYR HB bl2
      generalize v2.now = V2 at *
      clear v2
      have hls := later_some V2
      have k0 := later_cell f1.c0; have k1 := later_cell f1.c1; have k2 := later_cell f1.c2; have k3 := later_cell f1.c3; have k4 := later_cell f1.c4; have k5 := later_cell f1.c5
      have m0 := later_cell f2.c0; have m1 := later_cell f2.c1; have m2 := later_cell f2.c2; have m3 := later_cell f2.c3; have m4 := later_cell f2.c4; have m5 := later_cell f2.c5
      have kx := later_cell x6; have ky := later_cell y6
      dsimp only at k0 k1 k2 k3 k4 k5 m0 m1 m2 m3 m4 m5
      clear f1 f2 x6 y6
      go_upto_region 7 with fail
      refine wp_region_later (by kernel_rfl) (by kernel_rfl) ?_
      repeat (go_big_quiet_step (first | (go_at_call 25; (with_reducible refine calls_later (HC2.out _ ?_)); exact Later.below _) | fail))
      refine wpQuiet_nil ?_
      intro _ hw'
      obtain ⟨v3, hw''⟩ := hw'
      subst hw''
      have HXT := hid (HXS.out.below v3.below); have HYT := hid (HYS.out.below v3.below)
      have HBT := hid (HBS.out.trans (v3.below.mono HBS.out.size))
      clear k0 k1 k2 k3 k4 k5 m0 m1 m2 m3 m4 m5 kx ky hls
      go_wp2_with fail
      go_roundw
      case rel => exact ⟨j + 1, by omega, by go_num, HBT.out, HXT.out, HYT.out⟩
      case measure => simp [intOf]; omega
    · clear hb hx hy
      go_wp2_with fail
      go_ret
      exact ⟨rfl, HB.out⟩
end Go.Proofs.Ytfnfbljijkjkjaa
