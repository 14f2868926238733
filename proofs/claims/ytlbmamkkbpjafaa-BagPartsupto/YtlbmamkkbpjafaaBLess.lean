/- What Less and Common answer. -/
import Derived.Test.YtlbmamkkbpjafaaBKeep
namespace Go.Proofs.Ytlbmamkkbpjafaa
open Go.RowKit Go.Deep

/-- Less and Common, of rows. -/
def lessP (l m : List It) : List It := keepP (fun y => y.2 - cntK y.1.1 m) l
def comP (l m : List It) : List It := keepP (fun y => min y.2 (cntK y.1.1 m)) l
theorem eg44 : ∀ args w, (callFunc 44 args).run Try.prog w = .ok (.enter 44 args) w := fun _ _ => by kernel_rfl
theorem eg45 : ∀ args w, (callFunc 45 args).run Try.prog w = .ok (.enter 45 args) w := fun _ _ => by kernel_rfl
set_option maxRecDepth 100000 in
set_option maxHeartbeats 4000000 in
theorem less1_any (Bb Ob B base : Nat) (v : Value) (q : Option Addr) (d i : Nat) (m : List It) (y : It) (w : World) (hb : w.cell? ⟨Bb, 0, none⟩ = some (.pointer (some ⟨B, 0, none⟩))) (ho : w.cell? ⟨Ob, 0, none⟩ = some (.slice q m.length d)) (hB : BagBox w B v) (hO : w.ownsRow base 65 3 (.slice q m.length d) m.length (itAll m)) (hm : Bg m) (hmn : m.length ≤ 1048576) (hy : 1 ≤ y.2 ∧ y.2 ≤ 2097152) :
    Calls Try.prog 44 #[.int .i64 i, itV y, .pointer (some ⟨Bb, 0, none⟩), .pointer (some ⟨Ob, 0, none⟩)] w fun e w' => e = .returned (.int .i64 (y.2 - cntK y.1.1 m)) ∧ Below w.heap.size w w' := by
  obtain ⟨⟨yk, ym⟩, yn⟩ := y
  have hcb := cnt_bd hm.pos yk
  have hms := hm.sum
  dsimp only [itV] at hy ⊢
  have b1 := alloc_below0 w (.cells #[.int .i64 yk, .int .i64 ym, .int .i64 yn] 65)
  have N1 := World.alloc_heap_new w (.cells #[.int .i64 yk, .int .i64 ym, .int .i64 yn] 65)
  have k0 := below_cell b1 _ _ hb; have k1 := below_cell b1 _ _ ho; have k2 := (hB.below b1).c0
  have j0 : (w.alloc (.cells #[.int .i64 yk, .int .i64 ym, .int .i64 yn] 65)).cell? ⟨w.heap.size, 0, none⟩ = some (.int .i64 yk) := cell_box N1 rfl
  have j1 : (w.alloc (.cells #[.int .i64 yk, .int .i64 ym, .int .i64 yn] 65)).cell? ⟨w.heap.size, 1, none⟩ = some (.int .i64 ym) := cell_box N1 rfl
  have j2 : (w.alloc (.cells #[.int .i64 yk, .int .i64 ym, .int .i64 yn] 65)).cell? ⟨w.heap.size, 2, none⟩ = some (.int .i64 yn) := cell_box N1 rfl
  have HC : Hid (∀ W, Below (w.alloc (.cells #[.int .i64 yk, .int .i64 ym, .int .i64 yn] 65)).heap.size (w.alloc (.cells #[.int .i64 yk, .int .i64 ym, .int .i64 yn] 65)) W → Calls Try.prog 39 #[ordV, .slice q m.length d, .agg #[.int .i64 yk, .int .i64 ym]] W fun e w' => e = .returned (.int .i64 (cntK yk m)) ∧ Below W.heap.size W w') := hid fun W hW => count_any q d m (yk, ym) W (owns_its (owns65_below (owns65_below hO b1) hW)) hm.srt hmn
  have B1 := hid b1
  clear hb ho hB hO b1 N1 hm
  generalize cntK yk m = cn at hcb HC ⊢
  go_enter Try.func44, Try.ntmps44
  go_wp2_with fail
  generalize w.alloc (.cells #[.int .i64 yk, .int .i64 ym, .int .i64 yn] 65) = V at k0 k1 k2 j0 j1 j2 HC B1 ⊢
  generalize w.heap.size = X at j0 j1 j2 ⊢
  have hne := later_some V
  have d0 := later_cell k0; have d1 := later_cell k1; have d2 := later_cell k2; have d3 := later_cell j0; have d4 := later_cell j1; have d5 := later_cell j2
  clear k0 k1 k2 j0 j1 j2
  refine wp_region_later (by kernel_rfl) (by kernel_rfl) ?_
  repeat (go_big_quiet_step (first | (go_at_call 39; with_reducible refine calls_later (HC.out _ ?_); exact Later.below _) | fail))
  refine wpQuiet_nil ?_
  intro _ hw'
  obtain ⟨b5, hw''⟩ := hw'
  subst hw''
  have HB5 := hid (B1.out.trans (b5.below.mono B1.out.size))
  clear d0 d1 d2 d3 d4 d5 hne HC
  go_wp2_with fail
  go_ret
  exact ⟨by first | rfl | go_num, HB5.out⟩
set_option maxRecDepth 100000 in
set_option maxHeartbeats 4000000 in
theorem com1_any (Bb Ob B base : Nat) (v : Value) (q : Option Addr) (d i : Nat) (m : List It) (y : It) (w : World) (hb : w.cell? ⟨Bb, 0, none⟩ = some (.pointer (some ⟨B, 0, none⟩))) (ho : w.cell? ⟨Ob, 0, none⟩ = some (.slice q m.length d)) (hB : BagBox w B v) (hO : w.ownsRow base 65 3 (.slice q m.length d) m.length (itAll m)) (hm : Bg m) (hmn : m.length ≤ 1048576) (hy : 1 ≤ y.2 ∧ y.2 ≤ 2097152) :
    Calls Try.prog 45 #[.int .i64 i, itV y, .pointer (some ⟨Bb, 0, none⟩), .pointer (some ⟨Ob, 0, none⟩)] w fun e w' => e = .returned (.int .i64 (min y.2 (cntK y.1.1 m))) ∧ Below w.heap.size w w' := by
  obtain ⟨⟨yk, ym⟩, yn⟩ := y
  have hcb := cnt_bd hm.pos yk
  have hms := hm.sum
  dsimp only [itV] at hy ⊢
  have b1 := alloc_below0 w (.cells #[.int .i64 yk, .int .i64 ym, .int .i64 yn] 65)
  have N1 := World.alloc_heap_new w (.cells #[.int .i64 yk, .int .i64 ym, .int .i64 yn] 65)
  have k0 := below_cell b1 _ _ hb; have k1 := below_cell b1 _ _ ho; have k2 := (hB.below b1).c0
  have j0 : (w.alloc (.cells #[.int .i64 yk, .int .i64 ym, .int .i64 yn] 65)).cell? ⟨w.heap.size, 0, none⟩ = some (.int .i64 yk) := cell_box N1 rfl
  have j1 : (w.alloc (.cells #[.int .i64 yk, .int .i64 ym, .int .i64 yn] 65)).cell? ⟨w.heap.size, 1, none⟩ = some (.int .i64 ym) := cell_box N1 rfl
  have j2 : (w.alloc (.cells #[.int .i64 yk, .int .i64 ym, .int .i64 yn] 65)).cell? ⟨w.heap.size, 2, none⟩ = some (.int .i64 yn) := cell_box N1 rfl
  have HC : Hid (∀ W, Below (w.alloc (.cells #[.int .i64 yk, .int .i64 ym, .int .i64 yn] 65)).heap.size (w.alloc (.cells #[.int .i64 yk, .int .i64 ym, .int .i64 yn] 65)) W → Calls Try.prog 39 #[ordV, .slice q m.length d, .agg #[.int .i64 yk, .int .i64 ym]] W fun e w' => e = .returned (.int .i64 (cntK yk m)) ∧ Below W.heap.size W w') := hid fun W hW => count_any q d m (yk, ym) W (owns_its (owns65_below (owns65_below hO b1) hW)) hm.srt hmn
  have B1 := hid b1
  clear hb ho hB hO b1 N1 hm
  generalize cntK yk m = cn at hcb HC ⊢
  go_enter Try.func45, Try.ntmps45
  go_wp2_with fail
  generalize w.alloc (.cells #[.int .i64 yk, .int .i64 ym, .int .i64 yn] 65) = V at k0 k1 k2 j0 j1 j2 HC B1 ⊢
  generalize w.heap.size = X at j0 j1 j2 ⊢
  have hne := later_some V
  have d0 := later_cell k0; have d1 := later_cell k1; have d2 := later_cell k2; have d3 := later_cell j0; have d4 := later_cell j1; have d5 := later_cell j2
  clear k0 k1 k2 j0 j1 j2
  refine wp_region_later (by kernel_rfl) (by kernel_rfl) ?_
  repeat (go_big_quiet_step (first | (go_at_call 39; with_reducible refine calls_later (HC.out _ ?_); exact Later.below _) | fail))
  refine wpQuiet_nil ?_
  intro _ hw'
  obtain ⟨b5, hw''⟩ := hw'
  subst hw''
  have HB5 := hid (B1.out.trans (b5.below.mono B1.out.size))
  clear d0 d1 d2 d3 d4 d5 hne HC
  go_wp2_with fail
  go_ret
  exact ⟨by first | rfl | go_num, HB5.out⟩
set_option maxRecDepth 100000 in
set_option maxHeartbeats 8000000 in
theorem less_gen (B base : Nat) (cv : Value) (p : Option Addr) (c : Nat) (l m : List It) (w : World) (hA : BagAt base B w l p c) (hl : Bg l) (hln : l.length ≤ 1048576) (hm : Bg m) (hmn : m.length ≤ 1048576) (hR : ∀ W, Below w.heap.size w W → Calls Try.prog 42 #[.pointer (some ⟨B, 0, none⟩), cv] W (NewRow W m)) :
    Calls Try.prog 18 #[.pointer (some ⟨B, 0, none⟩), cv] w (NewBag w (lessP l m)) := by
  have hmf : ∀ (fn : Fn) (first cap : Array Value) (w : World), (Instr.makeFunc fn first cap).run Try.prog w = .ok (.func fn first cap) w := fun _ _ _ _ => rfl
  have b0 := alloc_below0 w (.cells #[.pointer (some ⟨B, 0, none⟩)] 24)
  have n0 := World.alloc_heap_new w (.cells #[.pointer (some ⟨B, 0, none⟩)] 24)
  have HR := hid (hR _ b0); have HA := hid hA; have B0 := hid b0; have N0 := hid n0; have HL := hid hl
  clear hR hA b0 n0 hl
  go_enter Try.func18, Try.ntmps18
  go_wp2_with fail
  generalize w.alloc (.cells #[.pointer (some ⟨B, 0, none⟩)] 24) = V at B0 N0 HR ⊢
  refine HR.out.mono ?_
  rintro e w1 ⟨q, d, rfl, ho1, hb1⟩
  have b2 := alloc_below0 w1 (.cells #[.slice q m.length d] 61)
  have n2 := World.alloc_heap_new w1 (.cells #[.slice q m.length d] 61)
  have hb2 := B0.out.trans ((hb1.trans (b2.mono hb1.size)).mono B0.out.size)
  have N1 := (b2.block _ (Nat.lt_of_lt_of_le (Array.getElem?_eq_some_iff.1 N0.out).1 hb1.size)).trans ((hb1.block _ (Array.getElem?_eq_some_iff.1 N0.out).1).trans N0.out)
  have hA2 := HA.out.below hb2
  have hO2 := owns65_below ho1 b2
  have y0 : (w1.alloc (.cells #[.slice none 0 0] 61)).cell? ⟨w1.heap.size, 0, none⟩ = some (.slice none 0 0) := cell_box (World.alloc_heap_new w1 _) rfl
  have k0 : (w1.alloc (.cells #[.slice q m.length d] 61)).cell? ⟨w.heap.size, 0, none⟩ = some (.pointer (some ⟨B, 0, none⟩)) := cell_box N1 rfl
  have k1 : (w1.alloc (.cells #[.slice q m.length d] 61)).cell? ⟨w1.heap.size, 0, none⟩ = some (.slice q m.length d) := cell_box n2 rfl
  have k2 := hA2.1.c1
  have HK : Hid (∀ W, Below (w1.alloc (.cells #[.slice q m.length d] 61)).heap.size (w1.alloc (.cells #[.slice q m.length d] 61)) W → Calls Try.prog 43 #[.pointer (some ⟨B, 0, none⟩), .slice p l.length c, .func (.func 44) #[] #[.pointer (some ⟨w.heap.size, 0, none⟩), .pointer (some ⟨w1.heap.size, 0, none⟩)]] W (NewBag W (lessP l m))) := hid fun W hW =>
    keep_any 44 _ eg44 B base _ p c l _ W (hA2.below hW).1 (hA2.below hW).2.1 hln fun W2 hW2 i hi => less1_any w.heap.size w1.heap.size B V.heap.size _ q d i m l[i] W2 (below_cell hW2 _ _ (below_cell hW _ _ k0)) (below_cell hW2 _ _ (below_cell hW _ _ k1)) ((hA2.below hW).below hW2).1 (owns65_below (owns65_below hO2 hW) hW2) hm hmn (by have := sumN_le l HL.out.pos i hi; have := HL.out.sum; omega)
  have HB2 := hid hb2
  have Q0 := hid k0; have Q1 := hid k1; have Q2 := hid k2
  clear ho1 hb1 b2 n2 hb2 N1 hA2 hO2 HR k0 k1 k2
  go_wp2_with fail
  clear y0
  generalize w1.alloc (.cells #[.slice q m.length d] 61) = V2 at HB2 Q0 Q1 Q2 HK ⊢
  go_region_held3 (fun w' => w'.cell? ⟨w.heap.size, 0, none⟩ = some (.pointer (some ⟨B, 0, none⟩)) ∧ w'.cell? ⟨B, 1, none⟩ = some (.slice p l.length c)) ((first
    | (refine ⟨?_, ?_⟩ <;> (with_reducible refine below_cell (w := V2) ?_ _ _ ?_; (solve | (repeat' first | (with_reducible exact Below.refl _ V2) | (with_reducible exact HB3.out) | (with_reducible refine Below.drew ?_))); first | exact Q0.out | exact Q2.out))
    | fail)) ((first
    | (go_at_call 43; refine Calls.mono (HK.out _ ?_) ?_; (exact (Below.refl _ V2).drew); rintro e w3 ⟨G, q3, d3, rfl, ha3, hg3, hb3⟩; have HB3 : Hid (Below V2.heap.size V2 w3) := ((Below.refl _ V2).drew).trans hb3; have HA3 : Hid (BagAt V2.heap.size G w3 (lessP l m) q3 d3) := ha3; have HG3 : Hid (V2.heap.size ≤ G) := hg3; clear hb3 ha3 hg3)
    | fail))
  all_goals
    go_wp2_with fail
    go_ret
    exact ⟨G, q3, d3, rfl, ⟨HA3.out.1, owns65_mono HA3.out.2.1 HB2.out.size, HA3.out.2.2⟩, Nat.le_trans HB2.out.size HG3.out, HB2.out.trans (HB3.out.mono HB2.out.size)⟩
set_option maxRecDepth 100000 in
set_option maxHeartbeats 8000000 in
theorem com_gen (B base : Nat) (cv : Value) (p : Option Addr) (c : Nat) (l m : List It) (w : World) (hA : BagAt base B w l p c) (hl : Bg l) (hln : l.length ≤ 1048576) (hm : Bg m) (hmn : m.length ≤ 1048576) (hR : ∀ W, Below w.heap.size w W → Calls Try.prog 42 #[.pointer (some ⟨B, 0, none⟩), cv] W (NewRow W m)) :
    Calls Try.prog 20 #[.pointer (some ⟨B, 0, none⟩), cv] w (NewBag w (comP l m)) := by
  have hmf : ∀ (fn : Fn) (first cap : Array Value) (w : World), (Instr.makeFunc fn first cap).run Try.prog w = .ok (.func fn first cap) w := fun _ _ _ _ => rfl
  have b0 := alloc_below0 w (.cells #[.pointer (some ⟨B, 0, none⟩)] 24)
  have n0 := World.alloc_heap_new w (.cells #[.pointer (some ⟨B, 0, none⟩)] 24)
  have HR := hid (hR _ b0); have HA := hid hA; have B0 := hid b0; have N0 := hid n0; have HL := hid hl
  clear hR hA b0 n0 hl
  go_enter Try.func20, Try.ntmps20
  go_wp2_with fail
  generalize w.alloc (.cells #[.pointer (some ⟨B, 0, none⟩)] 24) = V at B0 N0 HR ⊢
  refine HR.out.mono ?_
  rintro e w1 ⟨q, d, rfl, ho1, hb1⟩
  have b2 := alloc_below0 w1 (.cells #[.slice q m.length d] 61)
  have n2 := World.alloc_heap_new w1 (.cells #[.slice q m.length d] 61)
  have hb2 := B0.out.trans ((hb1.trans (b2.mono hb1.size)).mono B0.out.size)
  have N1 := (b2.block _ (Nat.lt_of_lt_of_le (Array.getElem?_eq_some_iff.1 N0.out).1 hb1.size)).trans ((hb1.block _ (Array.getElem?_eq_some_iff.1 N0.out).1).trans N0.out)
  have hA2 := HA.out.below hb2
  have hO2 := owns65_below ho1 b2
  have y0 : (w1.alloc (.cells #[.slice none 0 0] 61)).cell? ⟨w1.heap.size, 0, none⟩ = some (.slice none 0 0) := cell_box (World.alloc_heap_new w1 _) rfl
  have k0 : (w1.alloc (.cells #[.slice q m.length d] 61)).cell? ⟨w.heap.size, 0, none⟩ = some (.pointer (some ⟨B, 0, none⟩)) := cell_box N1 rfl
  have k1 : (w1.alloc (.cells #[.slice q m.length d] 61)).cell? ⟨w1.heap.size, 0, none⟩ = some (.slice q m.length d) := cell_box n2 rfl
  have k2 := hA2.1.c1
  have HK : Hid (∀ W, Below (w1.alloc (.cells #[.slice q m.length d] 61)).heap.size (w1.alloc (.cells #[.slice q m.length d] 61)) W → Calls Try.prog 43 #[.pointer (some ⟨B, 0, none⟩), .slice p l.length c, .func (.func 45) #[] #[.pointer (some ⟨w.heap.size, 0, none⟩), .pointer (some ⟨w1.heap.size, 0, none⟩)]] W (NewBag W (comP l m))) := hid fun W hW =>
    keep_any 45 _ eg45 B base _ p c l _ W (hA2.below hW).1 (hA2.below hW).2.1 hln fun W2 hW2 i hi => com1_any w.heap.size w1.heap.size B V.heap.size _ q d i m l[i] W2 (below_cell hW2 _ _ (below_cell hW _ _ k0)) (below_cell hW2 _ _ (below_cell hW _ _ k1)) ((hA2.below hW).below hW2).1 (owns65_below (owns65_below hO2 hW) hW2) hm hmn (by have := sumN_le l HL.out.pos i hi; have := HL.out.sum; omega)
  have HB2 := hid hb2
  have Q0 := hid k0; have Q1 := hid k1; have Q2 := hid k2
  clear ho1 hb1 b2 n2 hb2 N1 hA2 hO2 HR k0 k1 k2
  go_wp2_with fail
  clear y0
  generalize w1.alloc (.cells #[.slice q m.length d] 61) = V2 at HB2 Q0 Q1 Q2 HK ⊢
  go_region_held3 (fun w' => w'.cell? ⟨w.heap.size, 0, none⟩ = some (.pointer (some ⟨B, 0, none⟩)) ∧ w'.cell? ⟨B, 1, none⟩ = some (.slice p l.length c)) ((first
    | (refine ⟨?_, ?_⟩ <;> (with_reducible refine below_cell (w := V2) ?_ _ _ ?_; (solve | (repeat' first | (with_reducible exact Below.refl _ V2) | (with_reducible exact HB3.out) | (with_reducible refine Below.drew ?_))); first | exact Q0.out | exact Q2.out))
    | fail)) ((first
    | (go_at_call 43; refine Calls.mono (HK.out _ ?_) ?_; (exact (Below.refl _ V2).drew); rintro e w3 ⟨G, q3, d3, rfl, ha3, hg3, hb3⟩; have HB3 : Hid (Below V2.heap.size V2 w3) := ((Below.refl _ V2).drew).trans hb3; have HA3 : Hid (BagAt V2.heap.size G w3 (comP l m) q3 d3) := ha3; have HG3 : Hid (V2.heap.size ≤ G) := hg3; clear hb3 ha3 hg3)
    | fail))
  all_goals
    go_wp2_with fail
    go_ret
    exact ⟨G, q3, d3, rfl, ⟨HA3.out.1, owns65_mono HA3.out.2.1 HB2.out.size, HA3.out.2.2⟩, Nat.le_trans HB2.out.size HG3.out, HB2.out.trans (HB3.out.mono HB2.out.size)⟩
end Go.Proofs.Ytlbmamkkbpjafaa
