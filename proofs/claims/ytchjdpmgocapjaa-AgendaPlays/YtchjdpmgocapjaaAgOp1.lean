/- A call of both agendas: Push, Pop, Drop, Weigh, Peek. -/
import Derived.Test.YtchjdpmgocapjaaAgOn
namespace Go.Proofs.Ytchjdpmgocapjaa
open Go.RowKit Go.Shelf

theorem peek_form (L : List Th) : ∃ a b : Int, ∃ ok : Bool, peekV L = .tuple #[.int .i64 a, .int .i64 b, .bool ok] := by
  unfold peekV
  split
  · exact ⟨_, _, _, rfl⟩
  · exact ⟨_, _, _, rfl⟩
def opV (wh : Bool) (k x wt : Int) : Value := .agg #[.bool wh, .int .i64 k, .int .i64 x, .int .i64 wt]
set_option maxRecDepth 100000 in
set_option maxHeartbeats 4000000 in
theorem one_pop {w : World} {A B : Nat} {most last : Int} {L : List Th} {F G : Nat → Prop} (h : Tw w A B most last L F G) (wh : Bool) (x wt : Int) (hl : last ≤ 9223372036854775807) : Calls Try.prog 17 #[.pointer (some ⟨A, 0, none⟩), .pointer (some ⟨B, 0, none⟩), opV wh 1 x wt] w fun e w' => e = .returned (.bool true) ∧ TwEnd w w' A B most last (popL L) F G := by
  refine (callsIn_wide (n := 20)).1 ?_
  refine callsIn_of_wp_marks Try.func17 rfl trivial (wpIn_wide.2 ?_) rfl
  simp only [Try.ntmps17, List.size_toArray, List.length_cons, List.length_nil, Nat.reduceAdd, Nat.reduceSub, Array.replicate_succ, Array.replicate_zero, List.push_toArray, List.append_toArray, List.nil_append, List.cons_append]
  have HO := hid (ow_start (wh := wh) (k := 1) (x := x) (wt := wt) h _ rfl)
  obtain ⟨W, hW⟩ : ∃ W, W = (w.alloc (.cells #[.bool wh, .int .i64 1, .int .i64 x, .int .i64 wt] 46)).alloc (.cells #[.bool false] 4) := ⟨_, rfl⟩
  rw [← hW] at HO
  have k1 : W.cell? ⟨w.heap.size, 1, none⟩ = some (.int .i64 1) := cell_box HO.out.o rfl
  obtain ⟨a, b, ok, hv⟩ := peek_form L
  have HA := hid (pop_any HO.out.a hl)
  have HV := hid hv
  rw [hv] at HA
  unfold opV
  clear hv h
  go_upto_region 1 with fail
  rw [← hW]
  clear hW
  go_wp2_with fail
  refine HA.out.mono ?_
  rintro e w1 ⟨rfl, he⟩
  obtain ⟨F1, hO1⟩ := HO.out.opA he
  have HO1 := hid hO1
  have HB := hid (rpop_any hO1.b)
  rw [HV.out] at HB
  clear he hO1 HA
  go_wp2_with fail
  refine HB.out.mono ?_
  rintro e w2 ⟨rfl, he⟩
  obtain ⟨G2, hO2⟩ := HO1.out.opB he
  have HE := hid (hO2.fin _ rfl)
  have c2 : w2.cell? ⟨w.heap.size + 1, 0, none⟩ = some (.bool false) := cell_box hO2.r rfl
  have f2 : w2.frozen? ⟨w.heap.size + 1, 0, none⟩ = false := free_box hO2.r
  have e1 : (a == a) = true := by simp
  have e2 : (b == b) = true := by simp
  have e3 : (ok == ok) = true := by simp
  clear he hO2 HB HO1 HO
  go_wp2_with fail
  exact ⟨_, results_c1 rfl rfl (load_bool HE.out.1), rfl, HE.out.2⟩
set_option maxRecDepth 100000 in
set_option maxHeartbeats 4000000 in
theorem one_peek {w : World} {A B : Nat} {most last : Int} {L : List Th} {F G : Nat → Prop} (h : Tw w A B most last L F G) (wh : Bool) (k x wt : Int) (h0 : k ≠ 0) (h1 : k ≠ 1) (h2 : k ≠ 2) (h3 : k ≠ 3) (h4 : k ≠ 4) : Calls Try.prog 17 #[.pointer (some ⟨A, 0, none⟩), .pointer (some ⟨B, 0, none⟩), opV wh k x wt] w fun e w' => e = .returned (.bool true) ∧ TwEnd w w' A B most last L F G := by
  refine (callsIn_wide (n := 20)).1 ?_
  refine callsIn_of_wp_marks Try.func17 rfl trivial (wpIn_wide.2 ?_) rfl
  simp only [Try.ntmps17, List.size_toArray, List.length_cons, List.length_nil, Nat.reduceAdd, Nat.reduceSub, Array.replicate_succ, Array.replicate_zero, List.push_toArray, List.append_toArray, List.nil_append, List.cons_append]
  have HO := hid (ow_start (wh := wh) (k := k) (x := x) (wt := wt) h _ rfl)
  obtain ⟨W, hW⟩ : ∃ W, W = (w.alloc (.cells #[.bool wh, .int .i64 k, .int .i64 x, .int .i64 wt] 46)).alloc (.cells #[.bool false] 4) := ⟨_, rfl⟩
  rw [← hW] at HO
  have k1 : W.cell? ⟨w.heap.size, 1, none⟩ = some (.int .i64 k) := cell_box HO.out.o rfl
  obtain ⟨a, b, ok, hv⟩ := peek_form L
  have HA := hid (peek_any HO.out.a)
  have HV := hid hv
  rw [hv] at HA
  have q0 : (k == 0) = false := by simpa using h0
  have q1 : (k == 1) = false := by simpa using h1
  have q2 : (k == 2) = false := by simpa using h2
  have q3 : (k == 3) = false := by simpa using h3
  have q4 : (k == 4) = false := by simpa using h4
  clear hv h h0 h1 h2 h3 h4
  unfold opV
  go_upto_region 1 with fail
  rw [← hW]
  clear hW
  go_wp2_with fail
  refine HA.out.mono ?_
  rintro e w1 ⟨rfl, hb⟩
  have hO1 := HO.out.below hb
  have HO1 := hid hO1
  have HB := hid (rpeek_any hO1.b)
  rw [HV.out] at HB
  clear hb hO1 HA
  go_wp2_with fail
  refine HB.out.mono ?_
  rintro e w2 ⟨rfl, hb⟩
  have hO2 := HO1.out.below hb
  have HE := hid (hO2.fin _ rfl)
  have c2 : w2.cell? ⟨w.heap.size + 1, 0, none⟩ = some (.bool false) := cell_box hO2.r rfl
  have f2 : w2.frozen? ⟨w.heap.size + 1, 0, none⟩ = false := free_box hO2.r
  have e1 : (a == a) = true := by simp
  have e2 : (b == b) = true := by simp
  have e3 : (ok == ok) = true := by simp
  clear hb hO2 HB HO1 HO
  go_wp2_with fail
  exact ⟨_, results_c1 rfl rfl (load_bool HE.out.1), rfl, HE.out.2⟩
set_option maxRecDepth 100000 in
set_option maxHeartbeats 4000000 in
theorem one_full {w : World} {A B : Nat} {most last : Int} {L : List Th} {F G : Nat → Prop} (h : Tw w A B most last L F G) (wh : Bool) (x wt : Int) (hf : most ≤ L.length) : Calls Try.prog 17 #[.pointer (some ⟨A, 0, none⟩), .pointer (some ⟨B, 0, none⟩), opV wh 0 x wt] w fun e w' => e = .returned (.bool true) ∧ TwEnd w w' A B most last L F G := by
  refine (callsIn_wide (n := 20)).1 ?_
  refine callsIn_of_wp_marks Try.func17 rfl trivial (wpIn_wide.2 ?_) rfl
  simp only [Try.ntmps17, List.size_toArray, List.length_cons, List.length_nil, Nat.reduceAdd, Nat.reduceSub, Array.replicate_succ, Array.replicate_zero, List.push_toArray, List.append_toArray, List.nil_append, List.cons_append]
  have HO := hid (ow_start (wh := wh) (k := 0) (x := x) (wt := wt) h _ rfl)
  obtain ⟨W, hW⟩ : ∃ W, W = (w.alloc (.cells #[.bool wh, .int .i64 0, .int .i64 x, .int .i64 wt] 46)).alloc (.cells #[.bool false] 4) := ⟨_, rfl⟩
  rw [← hW] at HO
  have k1 : W.cell? ⟨w.heap.size, 1, none⟩ = some (.int .i64 0) := cell_box HO.out.o rfl
  have k2 : W.cell? ⟨w.heap.size, 2, none⟩ = some (.int .i64 x) := cell_box HO.out.o rfl
  have k3 : W.cell? ⟨w.heap.size, 3, none⟩ = some (.int .i64 wt) := cell_box HO.out.o rfl
  have HA := hid (push_full HO.out.a x wt hf)
  have HLL := hid h.a.rise.2
  clear h
  unfold opV
  go_upto_region 1 with fail
  rw [← hW]
  clear hW
  go_wp2_with fail
  refine HA.out.mono ?_
  rintro e w1 ⟨rfl, he⟩
  obtain ⟨F1, hO1⟩ := HO.out.opA he
  have HO1 := hid hO1
  have k4 : w1.cell? ⟨w.heap.size, 2, none⟩ = some (.int .i64 x) := cell_box hO1.o rfl
  have k5 : w1.cell? ⟨w.heap.size, 3, none⟩ = some (.int .i64 wt) := cell_box hO1.o rfl
  have HB := hid (rpush_full hO1.b x wt hf)
  clear he hO1 HA
  go_wp2_with fail
  refine HB.out.mono ?_
  rintro e w2 ⟨rfl, he⟩
  obtain ⟨G2, hO2⟩ := HO1.out.opB he
  have HE := hid (hO2.fin _ rfl)
  have c2 : w2.cell? ⟨w.heap.size + 1, 0, none⟩ = some (.bool false) := cell_box hO2.r rfl
  have f2 : w2.frozen? ⟨w.heap.size + 1, 0, none⟩ = false := free_box hO2.r
  have e1 : ((0 : Int) == (0 : Int)) = true := by simp
  clear he hO2 HB HO1 HO
  go_wp2_with fail
  exact ⟨_, results_c1 rfl rfl (load_bool HE.out.1), rfl, HE.out.2⟩
set_option maxRecDepth 100000 in
set_option maxHeartbeats 4000000 in
theorem one_more {w : World} {A B : Nat} {most last : Int} {L : List Th} {F G : Nat → Prop} (h : Tw w A B most last L F G) (wh : Bool) (x wt : Int) (hf : (L.length : Int) < most) (hl : last < 9223372036854775807) : Calls Try.prog 17 #[.pointer (some ⟨A, 0, none⟩), .pointer (some ⟨B, 0, none⟩), opV wh 0 x wt] w fun e w' => e = .returned (.bool true) ∧ TwEnd w w' A B most (last + 1) (L ++ [⟨x, wt, last + 1⟩]) F G := by
  refine (callsIn_wide (n := 20)).1 ?_
  refine callsIn_of_wp_marks Try.func17 rfl trivial (wpIn_wide.2 ?_) rfl
  simp only [Try.ntmps17, List.size_toArray, List.length_cons, List.length_nil, Nat.reduceAdd, Nat.reduceSub, Array.replicate_succ, Array.replicate_zero, List.push_toArray, List.append_toArray, List.nil_append, List.cons_append]
  have HO := hid (ow_start (wh := wh) (k := 0) (x := x) (wt := wt) h _ rfl)
  obtain ⟨W, hW⟩ : ∃ W, W = (w.alloc (.cells #[.bool wh, .int .i64 0, .int .i64 x, .int .i64 wt] 46)).alloc (.cells #[.bool false] 4) := ⟨_, rfl⟩
  rw [← hW] at HO
  have k1 : W.cell? ⟨w.heap.size, 1, none⟩ = some (.int .i64 0) := cell_box HO.out.o rfl
  have k2 : W.cell? ⟨w.heap.size, 2, none⟩ = some (.int .i64 x) := cell_box HO.out.o rfl
  have k3 : W.cell? ⟨w.heap.size, 3, none⟩ = some (.int .i64 wt) := cell_box HO.out.o rfl
  have HA := hid (push_more HO.out.a x wt hf hl)
  have HLL := hid h.a.rise.2
  clear h
  unfold opV
  go_upto_region 1 with fail
  rw [← hW]
  clear hW
  go_wp2_with fail
  refine HA.out.mono ?_
  rintro e w1 ⟨rfl, he⟩
  obtain ⟨F1, hO1⟩ := HO.out.opA he
  have HO1 := hid hO1
  have k4 : w1.cell? ⟨w.heap.size, 2, none⟩ = some (.int .i64 x) := cell_box hO1.o rfl
  have k5 : w1.cell? ⟨w.heap.size, 3, none⟩ = some (.int .i64 wt) := cell_box hO1.o rfl
  have HB := hid (rpush_more hO1.b x wt hf HLL.out hl)
  clear he hO1 HA
  go_wp2_with fail
  refine HB.out.mono ?_
  rintro e w2 ⟨rfl, he⟩
  obtain ⟨G2, hO2⟩ := HO1.out.opB he
  have HE := hid (hO2.fin _ rfl)
  have c2 : w2.cell? ⟨w.heap.size + 1, 0, none⟩ = some (.bool false) := cell_box hO2.r rfl
  have f2 : w2.frozen? ⟨w.heap.size + 1, 0, none⟩ = false := free_box hO2.r
  have e1 : ((last + 1) == (last + 1)) = true := by simp
  clear he hO2 HB HO1 HO
  go_wp2_with fail
  exact ⟨_, results_c1 rfl rfl (load_bool HE.out.1), rfl, HE.out.2⟩
end Go.Proofs.Ytchjdpmgocapjaa
