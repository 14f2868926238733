import Derived.Test.YtfnfbljijkjkjaaGreatKSoW
/- The solver at one equation: set; a sort of one. -/
namespace Go.Proofs.YtfnfbljijkjkjaaGreat
open Go.RowKit Go.Deep

set_option maxRecDepth 100000 in
set_option maxHeartbeats 2000000 in
theorem len64_one (w : World) : Calls Tryz.prog 92 #[.int .u64 1] w fun e w' => (∃ k : Int, e = .returned (.int .i64 k)) ∧ w' = w := by
  go_enter Tryz.func92, Tryz.ntmps92
  go_wp2
  go_ret
  exact ⟨⟨_, rfl⟩, rfl⟩
set_option maxRecDepth 100000 in
set_option maxHeartbeats 2000000 in
theorem len_one (w : World) : Calls Tryz.prog 74 #[.int .u64 1] w fun e w' => (∃ k : Int, e = .returned (.int .i64 k)) ∧ w' = w := by
  go_enter Tryz.func74, Tryz.ntmps74
  go_wp2_with (go_at_call 92; refine (len64_one _).mono ?_; rintro e w1 ⟨⟨k, rfl⟩, rfl⟩)
  go_ret
  exact ⟨⟨_, rfl⟩, rfl⟩
set_option maxRecDepth 100000 in
set_option maxHeartbeats 2000000 in
theorem insertion_one (p : Option Addr) (c : Nat) (f : Value) (w : World) : Calls Tryz.prog 83 #[.slice p 1 c, .int .i64 0, .int .i64 1, f] w fun e w' => (∃ v, e = .returned v) ∧ w' = w := by
  go_enter Tryz.func83, Tryz.ntmps83
  go_wp2
  go_loopw [8] (fun i wr => i = .int .i64 1 ∧ wr = w) (fun _ _ => 0)
  case atStart => exact ⟨rfl, rfl⟩
  case round =>
    obtain ⟨rfl, rfl⟩ := hrel
    go_wp2
    refine bodyPost_end (results_none rfl _ _ _) rfl ?_
    exact ⟨⟨_, rfl⟩, rfl⟩
set_option maxRecDepth 100000 in
set_option maxHeartbeats 2000000 in
theorem pdq_one (p : Option Addr) (c : Nat) (k : Int) (f : Value) (w : World) : Calls Tryz.prog 73 #[.slice p 1 c, .int .i64 0, .int .i64 1, .int .i64 k, f] w fun e w' => (∃ v, e = .returned v) ∧ w' = w := by
  have H := hid fun W => insertion_one p c f W
  go_enter Tryz.func73, Tryz.ntmps73
  go_wp2_with fail
  go_loopw [1, 2, 3, 10, 11] (fun a b l x y wr => a = .int .i64 0 ∧ b = .int .i64 1 ∧ l = .int .i64 k ∧ x = .bool true ∧ y = .bool true ∧ wr = w) (fun _ _ _ _ _ _ => 0)
  case atStart => exact ⟨rfl, rfl, rfl, rfl, rfl, rfl⟩
  case round =>
    obtain ⟨rfl, rfl, rfl, rfl, rfl, rfl⟩ := hrel
    go_wp2_with (go_at_call 83; refine (H.out _).mono ?_; rintro e w1 ⟨⟨v, rfl⟩, rfl⟩)
    refine bodyPost_ret (results_none rfl _ _ _) rfl ?_
    exact ⟨⟨_, rfl⟩, rfl⟩
set_option maxRecDepth 100000 in
set_option maxHeartbeats 2000000 in
theorem sort_one (p : Option Addr) (c : Nat) (f : Value) (w : World) : Calls Tryz.prog 51 #[.slice p 1 c, f] w fun e w' => (∃ v, e = .returned v) ∧ w' = w := by
  have H := hid fun k W => pdq_one p c k f W
  go_enter Tryz.func51, Tryz.ntmps51
  go_wp2_with (first
    | (go_at_call 74; refine (len_one _).mono ?_; rintro e w1 ⟨⟨k, rfl⟩, rfl⟩)
    | (go_at_call 73; refine (H.out _ _).mono ?_; rintro e w2 ⟨⟨v, rfl⟩, rfl⟩))
  refine bodyPost_end (results_none rfl _ _ _) rfl ?_
  exact ⟨⟨_, rfl⟩, rfl⟩

set_option maxRecDepth 100000 in
set_option maxHeartbeats 4000000 in
/-- set, where nothing is left and nothing is bound. -/
theorem set_one (B c : Nat) (p : Option Addr) (w : World) (nm : ByteArray) (t : Tn) (a : Option Addr) (d : Nat) (hB : Box w B 72 #[.slice p 0 c, .slice none 0 0]) (hT : TmAt w t.1 a d t.2) (hM : nodesF t.2 ≤ 1048576) :
    Calls Tryz.prog 31 #[.pointer (some ⟨B, 0, none⟩), .agg #[.string nm, .string t.1.1, .int .i64 t.1.2, .slice a (lenF t.2) d]] w fun e w' => e = .returned (.bool true) ∧ (∃ g2 c2 b2, b2 ≤ g2 ∧ w.heap.size ≤ b2 ∧ Box w' B 72 #[.slice p 0 c, .slice (some ⟨g2, 0, none⟩) 1 c2] ∧ 1 ≤ c2 ∧ w'.ownsRow b2 38 4 (.slice (some ⟨g2, 0, none⟩) 1 c2) 1 [.string nm, .string t.1.1, .int .i64 t.1.2, .slice a (lenF t.2) d]) ∧ Fr (fun q => q = B) w w' := by
  obtain ⟨⟨xn, xs⟩, l⟩ := t
  dsimp only at *
  have hb0 := alloc_below0 w (.cells #[.string nm, .string xn, .int .i64 xs, .slice a (lenF l) d] 38)
  have hX := Box.new w 38 #[.string nm, .string xn, .int .i64 xs, .slice a (lenF l) d]
  have HS := hid fun (W : World) (hW : Below w.heap.size w W) => size_any (xn, xs) l a d W (hT.below hW) (by omega)
  have HB0 := hid hb0; have HX := hid hX; have HBB := hid hB
  have z0 := hX.c 0; have z1 := hX.c 1; have z2 := hX.c 2; have z3 := hX.c 3
  have hlt := hB.lt
  clear hX hb0 hT hB
  go_enter Tryz.func31, Tryz.ntmps31
  go_upto_region 1 with fail
  go_region_with ((first
    | (go_at_call 54; refine (HS.out _ HB0.out.drew).mono ?_; rintro e w1 ⟨rfl, hb1⟩; have hb1' : Below (w.alloc (.cells #[.string nm, .string xn, .int .i64 xs, .slice a (lenF l) d] 38)).heap.size (w.alloc (.cells #[.string nm, .string xn, .int .i64 xs, .slice a (lenF l) d] 38)) w1 := (Below.refl _ _).drew.trans hb1; have HB1 := hid (HB0.out.trans (hb1'.mono HB0.out.size)); have X1 := HX.out.below hb1'; have HX1 := hid X1; have y0 := X1.c 0; have y1 := X1.c 1; have y2 := X1.c 2; have y3 := X1.c 3; clear hb1 hb1' X1)
    | fail))
  all_goals
    have hba := alloc_below0 w1 (.cells #[.string nm, .string xn, .int .i64 xs, .slice a (lenF l) d, .int .i64 (nodesF l + 1)] 105)
    have HB2 := hid (HB1.out.trans (hba.mono HB1.out.size))
    have X2 := HX1.out.below hba
    have W2 := HBB.out.below HB2.out
    have HW2 := hid W2
    have u0 := X2.c 0; have u1 := X2.c 1; have u2 := X2.c 2; have u3 := X2.c 3
    have r0 : (w1.alloc (.cells #[.string nm, .string xn, .int .i64 xs, .slice a (lenF l) d, .int .i64 (nodesF l + 1)] 105)).drew.cell? ⟨w.heap.size, 0, none⟩ = some (.string nm) := u0
    have r1 : (w1.alloc (.cells #[.string nm, .string xn, .int .i64 xs, .slice a (lenF l) d, .int .i64 (nodesF l + 1)] 105)).drew.cell? ⟨w.heap.size, 1, none⟩ = some (.string xn) := u1
    have r2 : (w1.alloc (.cells #[.string nm, .string xn, .int .i64 xs, .slice a (lenF l) d, .int .i64 (nodesF l + 1)] 105)).drew.cell? ⟨w.heap.size, 2, none⟩ = some (.int .i64 xs) := u2
    have r3 : (w1.alloc (.cells #[.string nm, .string xn, .int .i64 xs, .slice a (lenF l) d, .int .i64 (nodesF l + 1)] 105)).drew.cell? ⟨w.heap.size, 3, none⟩ = some (.slice a (lenF l) d) := u3
    clear z0 z1 z2 z3 y0 y1 y2 y3 X2 W2 hba u0 u1 u2 u3
    go_wp2_with (first
      | (go_at_call 55; refine (sides_none B c p _ _ _ HW2.out).mono ?_; rintro e w3 ⟨rfl, rfl⟩)
      | (go_at_call 56; refine (bound_none B _ _ _ HW2.out).mono ?_; rintro e w3 ⟨rfl, rfl⟩))
    go_region_with ((first
      | (go_at_call 57; refine (add_one B _ _ nm (xn, xs) a (lenF l) d (HW2.out.drew)).mono ?_; rintro e w4 ⟨⟨v4, rfl⟩, ⟨g2, c2, hb4, hc4, ho4⟩, hf4⟩; have HB4 := hid hb4; have HC4 := hid hc4; have HO4 := hid ho4; have HF4 := hid hf4; clear hb4 hc4 ho4 hf4)
      | fail))
    all_goals
      go_wp2_with fail
      go_ret
      have hq : (w1.alloc (.cells #[.string nm, .string xn, .int .i64 xs, .slice a (lenF l) d, .int .i64 (nodesF l + 1)] 105)).heap.size ≤ g2 := (owns_cells (g := g2) HO4.out rfl).1
      exact ⟨rfl, ⟨g2, c2, _, hq, HB2.out.size, HB4.out, HC4.out, HO4.out⟩, (Fr.of_below HB2.out).trans ((Fr.of_below (Below.refl _ _).drew).trans HF4.out)⟩

end Go.Proofs.YtfnfbljijkjkjaaGreat
/- The solver at one equation: told. -/
namespace Go.Proofs.YtfnfbljijkjkjaaGreat
open Go.RowKit Go.Deep

theorem row_cell {W : World} {g i : Nat} {cur : Array Value} {t : TypeId} (h : W.heap[g]? = some (Obj.cells cur t (0, 0))) (hi : i < cur.size) : ∃ v, W.cell? ⟨g, i, none⟩ = some v :=
  ⟨cur[i], by rw [cell_of_row W g i cur t (0, 0) h]; simp [hi]⟩
set_option maxRecDepth 100000 in
set_option maxHeartbeats 4000000 in
/-- told of one bind: one. -/
theorem told_one (B g c : Nat) (eq : Value) (w : World) (nm : ByteArray) (t : Tn) (a : Option Addr) (d : Nat) (hB : Box w B 72 #[eq, .slice (some ⟨g, 0, none⟩) 1 c]) (h0 : w.cell? ⟨g, 0, none⟩ = some (.string nm)) (h1 : w.cell? ⟨g, 1, none⟩ = some (.string t.1.1)) (h2 : w.cell? ⟨g, 2, none⟩ = some (.int .i64 t.1.2)) (h3 : w.cell? ⟨g, 3, none⟩ = some (.slice a (lenF t.2) d)) (hT : TmAt w t.1 a d t.2) :
    Calls Tryz.prog 30 #[.pointer (some ⟨B, 1, none⟩)] w fun e w' => (∃ p c', e = .returned (.slice p 1 c')) ∧ Below w.heap.size w w' := by
  obtain ⟨i0, hi, hz0, hz1, hz2⟩ := info_parts Tryz.info38
  obtain ⟨⟨xn, xs⟩, l⟩ := t
  dsimp only at *
  have c1 := hB.c 1
  have HB := hid hB; have HT := hid hT
  clear hB hT
  go_enter Tryz.func30, Tryz.ntmps30
  go_wp2_with (at_make; refine wpList_make_full _ rfl _ _ 29 rfl w.heap.size 38 i0 (.agg #[.string ⟨#[]⟩, .string ⟨#[]⟩, .int .i64 0, .slice none 0 0]) 4 Tryz.underlying29 hi hz0 hz1 .i64 .i64 _ _ 1 rfl rfl rfl rfl (by rw [hz2]; decide) (by decide) (by simp) ?_; intro w0 hown0 hgrow0; have hb0 : Below w.heap.size w w0 := (Below.refl _ _).grown hgrow0 (Nat.le_refl _) (fun k e => by cases e); have HB0 := hid hb0; have k1 := (HB.out.below hb0).c 1; have HR0 : Hid (∃ cur, w0.heap[w.heap.size]? = some (Obj.cells cur 38 (0, 0)) ∧ cur.size = 4) := hid (by rcases hown0.2 with ⟨hv, _⟩ | ⟨g', cap', cur, hv, _, hh, _, _, hcs, _⟩ <;> first | (cases hv; done) | (cases hv; exact ⟨cur, hh, hcs⟩)); clear hown0 hgrow0 hb0)
  clear k1
  go_loopw [17] (fun i wr => ∃ j : Nat, j ≤ 1 ∧ i = .int .i64 j ∧ Below w.heap.size w wr ∧ ∃ cur, wr.heap[w.heap.size]? = some (Obj.cells cur 38 (0, 0)) ∧ cur.size = 4) (fun i _ => 1 - (intOf i).toNat)
  case atStart => exact ⟨0, by omega, rfl, HB0.out, HR0.out⟩
  case round =>
    obtain ⟨j, hj, rfl, hb, cur, hcur, hsz⟩ := hrel
    have HBR := hid hb
    have HCUR := hid hcur
    by_cases hlt : j < 1
    · obtain rfl : j = 0 := by omega
      have q0 := below_cell hb _ _ h0; have q1 := below_cell hb _ _ h1; have q2 := below_cell hb _ _ h2; have q3 := below_cell hb _ _ h3
      obtain ⟨E, hE⟩ : ∃ E, wr.alloc (.cells #[.string nm, .string xn, .int .i64 xs, .slice a (lenF l) d] 38) = E := ⟨_, rfl⟩
      have hbE : Below wr.heap.size wr E := by rw [← hE]; exact alloc_below0 wr _
      have bE : Box E wr.heap.size 38 #[.string nm, .string xn, .int .i64 xs, .slice a (lenF l) d] := by rw [← hE]; exact Box.new wr 38 _
      have HBE := hid hbE; have BE := hid bE
      have HC := hid fun (W : World) (hW : Below E.heap.size E W) => clone_any (xn, xs) l a d W (HT.out.below ((HBR.out.trans (HBE.out.mono HBR.out.size)).trans (hW.mono (HBR.out.trans (HBE.out.mono HBR.out.size)).size)))
      have hcl : Hid (w.heap.size < wr.heap.size) := hid (Array.getElem?_eq_some_iff.1 hcur).1
      clear hb hcur hbE bE
      go_upto_region 5 with fail
      clear hE q0 q1 q2 q3
      have d0 : E.drew.cell? ⟨wr.heap.size, 0, none⟩ = some (.string nm) := BE.out.c 0
      have d1 : E.drew.cell? ⟨wr.heap.size, 1, none⟩ = some (.string xn) := BE.out.c 1
      have d2 : E.drew.cell? ⟨wr.heap.size, 2, none⟩ = some (.int .i64 xs) := BE.out.c 2
      have d3 : E.drew.cell? ⟨wr.heap.size, 3, none⟩ = some (.slice a (lenF l) d) := BE.out.c 3
      go_region_with ((first
        | (go_at_call 41; (with_reducible refine Calls.mono (HC.out _ (Below.refl _ E).drew) ?_); rintro e v1 ⟨a3, c3, rfl, hs1, hb1, hzz⟩; clear hzz hs1; have hb1' : Below E.heap.size E v1 := ((Below.refl _ E).drew).trans hb1; have HB1 := hid hb1'; have y0 : v1.cell? ⟨wr.heap.size, 0, none⟩ = some (.string nm) := (BE.out.below hb1').c 0; have hrow : v1.heap[w.heap.size]? = some (Obj.cells cur 38 (0, 0)) := (hb1'.block _ (Nat.lt_of_lt_of_le hcl.out HBE.out.size)).trans ((HBE.out.block _ hcl.out).trans HCUR.out); have HROW := hid hrow; have f0 : v1.frozen? ⟨w.heap.size, 0, none⟩ = false := row_frozen hrow; have f1 : v1.frozen? ⟨w.heap.size, 1, none⟩ = false := row_frozen hrow; have f2 : v1.frozen? ⟨w.heap.size, 2, none⟩ = false := row_frozen hrow; have f3 : v1.frozen? ⟨w.heap.size, 3, none⟩ = false := row_frozen hrow; obtain ⟨t0, s0⟩ := row_cell hrow (i := 0) (by omega); obtain ⟨t1, s1⟩ := row_cell hrow (i := 1) (by omega); obtain ⟨t2, s2⟩ := row_cell hrow (i := 2) (by omega); obtain ⟨t3, s3⟩ := row_cell hrow (i := 3) (by omega); clear hb1 hb1' hrow)
        | fail))
      all_goals
        go_wp2_with fail
        go_roundw
        case rel =>
          refine ⟨1, by omega, by go_num, ?_, _, block_set (block_set (block_set (block_set HROW.out _) _) _) _, by simp [hsz]⟩
          exact ((((HBR.out.trans (HBE.out.mono HBR.out.size)).trans (HB1.out.mono (HBR.out.trans (HBE.out.mono HBR.out.size)).size)).setCell (p := ⟨w.heap.size, 0, none⟩) (Nat.le_refl _) _).setCell (p := ⟨w.heap.size, 1, none⟩) (Nat.le_refl _) _ |>.setCell (p := ⟨w.heap.size, 2, none⟩) (Nat.le_refl _) _).setCell (p := ⟨w.heap.size, 3, none⟩) (Nat.le_refl _) _
        case measure => simp [intOf]
    · obtain rfl : j = 1 := by omega
      clear hb hcur
      go_wp2_with (go_at_call 51; refine (sort_one _ _ _ _).mono ?_; rintro e w5 ⟨⟨v, rfl⟩, rfl⟩)
      go_ret
      exact ⟨⟨_, _, rfl⟩, HBR.out⟩
end Go.Proofs.YtfnfbljijkjkjaaGreat
