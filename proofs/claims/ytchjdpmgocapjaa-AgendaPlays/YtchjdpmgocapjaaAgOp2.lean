/- A call of both agendas: Drop, Weigh. -/
import Derived.Test.YtchjdpmgocapjaaAgOp1
namespace Go.Proofs.Ytchjdpmgocapjaa
open Go.RowKit Go.Shelf

set_option maxRecDepth 100000 in
set_option maxHeartbeats 4000000 in
theorem one_drop {w : World} {A B : Nat} {most last : Int} {L : List Th} {F G : Nat → Prop} (h : Tw w A B most last L F G) (wh : Bool) (x wt : Int) (hx : Is64 x) : Calls Try.prog 17 #[.pointer (some ⟨A, 0, none⟩), .pointer (some ⟨B, 0, none⟩), opV wh 2 x wt] w fun e w' => e = .returned (.bool true) ∧ TwEnd w w' A B most last (dropT L x) F G := by
  refine (callsIn_wide (n := 20)).1 ?_
  refine callsIn_of_wp_marks Try.func17 rfl trivial (wpIn_wide.2 ?_) rfl
  simp only [Try.ntmps17, List.size_toArray, List.length_cons, List.length_nil, Nat.reduceAdd, Nat.reduceSub, Array.replicate_succ, Array.replicate_zero, List.push_toArray, List.append_toArray, List.nil_append, List.cons_append]
  have HO := hid (ow_start (wh := wh) (k := 2) (x := x) (wt := wt) h _ rfl)
  obtain ⟨W, hW⟩ : ∃ W, W = (w.alloc (.cells #[.bool wh, .int .i64 2, .int .i64 x, .int .i64 wt] 46)).alloc (.cells #[.bool false] 4) := ⟨_, rfl⟩
  rw [← hW] at HO
  have k1 : W.cell? ⟨w.heap.size, 1, none⟩ = some (.int .i64 2) := cell_box HO.out.o rfl
  have hOd := HO.out.below ((Below.refl _ W).drew)
  have HOD := hid hOd
  have hR := h.a.rise.1
  have k2 : W.drew.cell? ⟨w.heap.size, 2, none⟩ = some (.int .i64 x) := cell_box hOd.o rfl
  have HA := hid (drop_any hOd.a x hx)
  have HR := hid hR
  have HK0 : Hid (W.drew.cell? ⟨w.heap.size, 2, none⟩ = some (.int .i64 x)) := hid k2
  clear h hOd hR
  unfold opV
  go_upto_region 1 with fail
  rw [← hW]
  clear hW
  go_wp2_with fail
  go_region_held3 (fun w' => w'.cell? ⟨w.heap.size, 2, none⟩ = some (.int .i64 x)) ((first | exact HK0.out | exact HK1.out | exact HK2.out | exact HK3.out | go_keep | fail)) ((first
    | (go_at_call 22; refine Calls.mono HA.out ?_; rintro e w1 ⟨rfl, he⟩; obtain ⟨F1, hO1⟩ := HOD.out.opA he; have HO1 := hid hO1; have HK1 : Hid (w1.cell? ⟨w.heap.size, 2, none⟩ = some (.int .i64 x)) := hid (cell_box hO1.o rfl); have HB := hid (rdrop_any hO1.b HR.out x); clear he hO1)
    | (go_at_call 35; refine Calls.mono HB.out ?_; rintro e w2 ⟨rfl, he⟩; obtain ⟨G2, hO2⟩ := HO1.out.opB he; have HE := hid (hO2.fin _ rfl); have c2 : w2.cell? ⟨w.heap.size + 1, 0, none⟩ = some (.bool false) := cell_box hO2.r rfl; have f2 : w2.frozen? ⟨w.heap.size + 1, 0, none⟩ = false := free_box hO2.r; have HK2 : Hid (w2.cell? ⟨w.heap.size, 2, none⟩ = some (.int .i64 x)) := hid (cell_box hO2.o rfl); have HK3 : Hid ((w2.setCell ⟨w.heap.size + 1, 0, none⟩ (.bool true)).cell? ⟨w.heap.size, 2, none⟩ = some (.int .i64 x)) := hid (cell_box ((set_far (by omega) _).trans hO2.o) rfl); have e1 : (hasT L x == hasT L x) = true := (by simp); clear he hO2)
    | fail))
  all_goals
    go_wp2_with fail
    exact ⟨_, results_c1 rfl rfl (load_bool HE.out.1), rfl, HE.out.2⟩
set_option maxRecDepth 100000 in
set_option maxHeartbeats 4000000 in
theorem one_weigh {w : World} {A B : Nat} {most last : Int} {L : List Th} {F G : Nat → Prop} (h : Tw w A B most last L F G) (wh : Bool) (x wt : Int) (hx : Is64 x) : Calls Try.prog 17 #[.pointer (some ⟨A, 0, none⟩), .pointer (some ⟨B, 0, none⟩), opV wh 3 x wt] w fun e w' => e = .returned (.bool true) ∧ TwEnd w w' A B most last (weighT L x wt) F G := by
  refine (callsIn_wide (n := 20)).1 ?_
  refine callsIn_of_wp_marks Try.func17 rfl trivial (wpIn_wide.2 ?_) rfl
  simp only [Try.ntmps17, List.size_toArray, List.length_cons, List.length_nil, Nat.reduceAdd, Nat.reduceSub, Array.replicate_succ, Array.replicate_zero, List.push_toArray, List.append_toArray, List.nil_append, List.cons_append]
  have HO := hid (ow_start (wh := wh) (k := 3) (x := x) (wt := wt) h _ rfl)
  obtain ⟨W, hW⟩ : ∃ W, W = (w.alloc (.cells #[.bool wh, .int .i64 3, .int .i64 x, .int .i64 wt] 46)).alloc (.cells #[.bool false] 4) := ⟨_, rfl⟩
  rw [← hW] at HO
  have k1 : W.cell? ⟨w.heap.size, 1, none⟩ = some (.int .i64 3) := cell_box HO.out.o rfl
  have hOd := HO.out.below ((Below.refl _ W).drew)
  have HOD := hid hOd
  have hR := h.a.rise.1
  have k2 : W.drew.cell? ⟨w.heap.size, 2, none⟩ = some (.int .i64 x) := cell_box hOd.o rfl
  have k3 : W.drew.cell? ⟨w.heap.size, 3, none⟩ = some (.int .i64 wt) := cell_box hOd.o rfl
  have HA := hid (weigh_any hOd.a x wt hx)
  have HR := hid hR
  have HK0 : Hid (W.drew.cell? ⟨w.heap.size, 2, none⟩ = some (.int .i64 x) ∧ W.drew.cell? ⟨w.heap.size, 3, none⟩ = some (.int .i64 wt)) := hid ⟨k2, k3⟩
  clear h hOd hR
  unfold opV
  go_upto_region 1 with fail
  rw [← hW]
  clear hW
  go_wp2_with fail
  go_region_held3 (fun w' => w'.cell? ⟨w.heap.size, 2, none⟩ = some (.int .i64 x) ∧ w'.cell? ⟨w.heap.size, 3, none⟩ = some (.int .i64 wt)) ((first | exact HK0.out | exact HK1.out | exact HK2.out | exact HK3.out | go_keep | fail)) ((first
    | (go_at_call 23; refine Calls.mono HA.out ?_; rintro e w1 ⟨rfl, he⟩; obtain ⟨F1, hO1⟩ := HOD.out.opA he; have HO1 := hid hO1; have HK1 : Hid (w1.cell? ⟨w.heap.size, 2, none⟩ = some (.int .i64 x) ∧ w1.cell? ⟨w.heap.size, 3, none⟩ = some (.int .i64 wt)) := hid ⟨cell_box hO1.o rfl, cell_box hO1.o rfl⟩; have HB := hid (rweigh_any hO1.b HR.out x wt); clear he hO1)
    | (go_at_call 36; refine Calls.mono HB.out ?_; rintro e w2 ⟨rfl, he⟩; obtain ⟨G2, hO2⟩ := HO1.out.opB he; have HE := hid (hO2.fin _ rfl); have c2 : w2.cell? ⟨w.heap.size + 1, 0, none⟩ = some (.bool false) := cell_box hO2.r rfl; have f2 : w2.frozen? ⟨w.heap.size + 1, 0, none⟩ = false := free_box hO2.r; have HK2 : Hid (w2.cell? ⟨w.heap.size, 2, none⟩ = some (.int .i64 x) ∧ w2.cell? ⟨w.heap.size, 3, none⟩ = some (.int .i64 wt)) := hid ⟨cell_box hO2.o rfl, cell_box hO2.o rfl⟩; have HK3 : Hid ((w2.setCell ⟨w.heap.size + 1, 0, none⟩ (.bool true)).cell? ⟨w.heap.size, 2, none⟩ = some (.int .i64 x) ∧ (w2.setCell ⟨w.heap.size + 1, 0, none⟩ (.bool true)).cell? ⟨w.heap.size, 3, none⟩ = some (.int .i64 wt)) := hid ⟨cell_box ((set_far (by omega) _).trans hO2.o) rfl, cell_box ((set_far (by omega) _).trans hO2.o) rfl⟩; have e1 : (hasT L x == hasT L x) = true := (by simp); clear he hO2)
    | fail))
  all_goals
    go_wp2_with fail
    exact ⟨_, results_c1 rfl rfl (load_bool HE.out.1), rfl, HE.out.2⟩
end Go.Proofs.Ytchjdpmgocapjaa
