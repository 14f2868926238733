import Derived.Test.YtfnfbljijkjkjaaGreatKSoW
/- The solver at one equation: set; a sort of one. -/
namespace Go.Proofs.YtfnfbljijkjkjaaGreat
open Go.RowKit Go.Deep

set_option maxRecDepth 100000 in
set_option maxHeartbeats 2000000 in
theorem len64_one (w : World) : Calls Tryz.prog 92 #[.int .u64 1] w fun e w' => (∃ k : Int, e = .returned (.int .i64 k)) ∧ w' = w := by
  go_enter Tryz.func92, Tryz.ntmps92
  go_wp2
  go_ret
  exact ⟨⟨_, rfl⟩, rfl⟩
set_option maxRecDepth 100000 in
set_option maxHeartbeats 2000000 in
theorem len_one (w : World) : Calls Tryz.prog 74 #[.int .u64 1] w fun e w' => (∃ k : Int, e = .returned (.int .i64 k)) ∧ w' = w := by
  go_enter Tryz.func74, Tryz.ntmps74
  go_wp2_with (go_at_call 92; refine (len64_one _).mono ?_; rintro e w1 ⟨⟨k, rfl⟩, rfl⟩)
  go_ret
  exact ⟨⟨_, rfl⟩, rfl⟩
set_option maxRecDepth 100000 in
set_option maxHeartbeats 2000000 in
theorem insertion_one (p : Option Addr) (c : Nat) (f : Value) (w : World) : Calls Tryz.prog 83 #[.slice p 1 c, .int .i64 0, .int .i64 1, f] w fun e w' => (∃ v, e = .returned v) ∧ w' = w := by
  go_enter Tryz.func83, Tryz.ntmps83
  go_wp2
  go_loopw [8] (fun i wr => i = .int .i64 1 ∧ wr = w) (fun _ _ => 0)
  case atStart => exact ⟨rfl, rfl⟩
  case round =>
    obtain ⟨rfl, rfl⟩ := hrel
    go_wp2
    refine bodyPost_end (results_none rfl _ _ _) rfl ?_
    exact ⟨⟨_, rfl⟩, rfl⟩
set_option maxRecDepth 100000 in
set_option maxHeartbeats 2000000 in
theorem pdq_one (p : Option Addr) (c : Nat) (k : Int) (f : Value) (w : World) : Calls Tryz.prog 73 #[.slice p 1 c, .int .i64 0, .int .i64 1, .int .i64 k, f] w fun e w' => (∃ v, e = .returned v) ∧ w' = w := by
  have H := hid fun W => insertion_one p c f W
  go_enter Tryz.func73, Tryz.ntmps73
  go_wp2_with fail
  go_loopw [1, 2, 3, 10, 11] (fun a b l x y wr => a = .int .i64 0 ∧ b = .int .i64 1 ∧ l = .int .i64 k ∧ x = .bool true ∧ y = .bool true ∧ wr = w) (fun _ _ _ _ _ _ => 0)
  case atStart => exact ⟨rfl, rfl, rfl, rfl, rfl, rfl⟩
  case round =>
    obtain ⟨rfl, rfl, rfl, rfl, rfl, rfl⟩ := hrel
    go_wp2_with (go_at_call 83; refine (H.out _).mono ?_; rintro e w1 ⟨⟨v, rfl⟩, rfl⟩)
    refine bodyPost_ret (results_none rfl _ _ _) rfl ?_
    exact ⟨⟨_, rfl⟩, rfl⟩
set_option maxRecDepth 100000 in
set_option maxHeartbeats 2000000 in
theorem sort_one (p : Option Addr) (c : Nat) (f : Value) (w : World) : Calls Tryz.prog 51 #[.slice p 1 c, f] w fun e w' => (∃ v, e = .returned v) ∧ w' = w := by
  have H := hid fun k W => pdq_one p c k f W
  go_enter Tryz.func51, Tryz.ntmps51
  go_wp2_with (first
    | (go_at_call 74; refine (len_one _).mono ?_; rintro e w1 ⟨⟨k, rfl⟩, rfl⟩)
    | (go_at_call 73; refine (H.out _ _).mono ?_; rintro e w2 ⟨⟨v, rfl⟩, rfl⟩))
  refine bodyPost_end (results_none rfl _ _ _) rfl ?_
  exact ⟨⟨_, rfl⟩, rfl⟩

set_option maxRecDepth 100000 in
set_option maxHeartbeats 4000000 in
/-- set, where nothing is left and nothing is bound. -/
theorem set_one (B c : Nat) (p : Option Addr) (w : World) (nm : ByteArray) (t : Tn) (a : Option Addr) (d : Nat) (hB : Box w B 72 #[.slice p 0 c, .slice none 0 0]) (hT : TmAt w t.1 a d t.2) (hM : nodesF t.2 ≤ 1048576) :
    Calls Tryz.prog 31 #[.pointer (some ⟨B, 0, none⟩), .agg #[.string nm, .string t.1.1, .int .i64 t.1.2, .slice a (lenF t.2) d]] w fun e w' => e = .returned (.bool true) ∧ (∃ g2 c2 b2, b2 ≤ g2 ∧ w.heap.size ≤ b2 ∧ Box w' B 72 #[.slice p 0 c, .slice (some ⟨g2, 0, none⟩) 1 c2] ∧ 1 ≤ c2 ∧ w'.ownsRow b2 38 4 (.slice (some ⟨g2, 0, none⟩) 1 c2) 1 [.string nm, .string t.1.1, .int .i64 t.1.2, .slice a (lenF t.2) d]) ∧ Fr (fun q => q = B) w w' := by
  obtain ⟨⟨xn, xs⟩, l⟩ := t
  dsimp only at *
  have hb0 := alloc_below0 w (.cells #[.string nm, .string xn, .int .i64 xs, .slice a (lenF l) d] 38)
  have hX := Box.new w 38 #[.string nm, .string xn, .int .i64 xs, .slice a (lenF l) d]
  have HS := hid fun (W : World) (hW : Below w.heap.size w W) => size_any (xn, xs) l a d W (hT.below hW) (by omega)
  have HB0 := hid hb0; have HX := hid hX; have HBB := hid hB
  have z0 := hX.c 0; have z1 := hX.c 1; have z2 := hX.c 2; have z3 := hX.c 3
  have hlt := hB.lt
  clear hX hb0 hT hB
  go_enter Tryz.func31, Tryz.ntmps31
  go_upto_region 1 with fail
  go_region_with ((first
    | (go_at_call 54; refine (HS.out _ HB0.out.drew).mono ?_; rintro e w1 ⟨rfl, hb1⟩; have hb1' : Below (w.alloc (.cells #[.string nm, .string xn, .int .i64 xs, .slice a (lenF l) d] 38)).heap.size (w.alloc (.cells #[.string nm, .string xn, .int .i64 xs, .slice a (lenF l) d] 38)) w1 := (Below.refl _ _).drew.trans hb1; have HB1 := hid (HB0.out.trans (hb1'.mono HB0.out.size)); have X1 := HX.out.below hb1'; have HX1 := hid X1; have y0 := X1.c 0; have y1 := X1.c 1; have y2 := X1.c 2; have y3 := X1.c 3; clear hb1 hb1' X1)
    | fail))
  all_goals
    have hba := alloc_below0 w1 (.cells #[.string nm, .string xn, .int .i64 xs, .slice a (lenF l) d, .int .i64 (nodesF l + 1)] 105)
    have HB2 := hid (HB1.out.trans (hba.mono HB1.out.size))
    have X2 := HX1.out.below hba
    have W2 := HBB.out.below HB2.out
    have HW2 := hid W2
    have u0 := X2.c 0; have u1 := X2.c 1; have u2 := X2.c 2; have u3 := X2.c 3
    have r0 : (w1.alloc (.cells #[.string nm, .string xn, .int .i64 xs, .slice a (lenF l) d, .int .i64 (nodesF l + 1)] 105)).drew.cell? ⟨w.heap.size, 0, none⟩ = some (.string nm) := u0
    have r1 : (w1.alloc (.cells #[.string nm, .string xn, .int .i64 xs, .slice a (lenF l) d, .int .i64 (nodesF l + 1)] 105)).drew.cell? ⟨w.heap.size, 1, none⟩ = some (.string xn) := u1
    have r2 : (w1.alloc (.cells #[.string nm, .string xn, .int .i64 xs, .slice a (lenF l) d, .int .i64 (nodesF l + 1)] 105)).drew.cell? ⟨w.heap.size, 2, none⟩ = some (.int .i64 xs) := u2
    have r3 : (w1.alloc (.cells #[.string nm, .string xn, .int .i64 xs, .slice a (lenF l) d, .int .i64 (nodesF l + 1)] 105)).drew.cell? ⟨w.heap.size, 3, none⟩ = some (.slice a (lenF l) d) := u3
    clear z0 z1 z2 z3 y0 y1 y2 y3 X2 W2 hba u0 u1 u2 u3
    go_wp2_with (first
      | (go_at_call 55; refine (sides_none B c p _ _ _ HW2.out).mono ?_; rintro e w3 ⟨rfl, rfl⟩)
      | (go_at_call 56; refine (bound_none B _ _ _ HW2.out).mono ?_; rintro e w3 ⟨rfl, rfl⟩))
    go_region_with ((first
      | (go_at_call 57; refine (add_one B _ _ nm (xn, xs) a (lenF l) d (HW2.out.drew)).mono ?_; rintro e w4 ⟨⟨v4, rfl⟩, ⟨g2, c2, hb4, hc4, ho4⟩, hf4⟩; have HB4 := hid hb4; have HC4 := hid hc4; have HO4 := hid ho4; have HF4 := hid hf4; clear hb4 hc4 ho4 hf4)
      | fail))
    all_goals
      go_wp2_with fail
      go_ret
      have hq : (w1.alloc (.cells #[.string nm, .string xn, .int .i64 xs, .slice a (lenF l) d, .int .i64 (nodesF l + 1)] 105)).heap.size ≤ g2 := (owns_cells (g := g2) HO4.out rfl).1
      exact ⟨rfl, ⟨g2, c2, _, hq, HB2.out.size, HB4.out, HC4.out, HO4.out⟩, (Fr.of_below HB2.out).trans ((Fr.of_below (Below.refl _ _).drew).trans HF4.out)⟩

end Go.Proofs.YtfnfbljijkjkjaaGreat
