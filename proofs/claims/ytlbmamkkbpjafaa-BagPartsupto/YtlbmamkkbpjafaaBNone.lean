/- What the library's stable sort, Of, New, Items, Len and List do where there is nothing. -/
import Derived.Test.YtlbmamkkbpjafaaRows
import Derived.WalkKit
import Derived.WalkSpells
import Derived.WalkLawsBesides
import Derived.BigQuiet
import Derived.RangeFuncNested
import Derived.RangeFuncBound
import Derived.RangeFuncCalls
import Derived.Deep.Trees
import Derived.Deep.RegionHeld3
import Derived.Deep.DeepCutAuto
import Derived.Deep.AppendLies
import Derived.Deep.AppendSrc
import Derived.Laws.AppendOwnNone
namespace Go.Proofs.Ytlbmamkkbpjafaa
open Go.RowKit Go.Deep

theorem hid {p : Prop} (h : p) : Hid p := h
theorem cell_box {W : World} {b i : Nat} {T : TypeId} {cs : Array Value} {v : Value} (h : W.heap[b]? = some (.cells cs T (0, 0))) (hv : cs[i]? = some v) : W.cell? ⟨b, i, none⟩ = some v := by simp [World.cell?, h, hv]
theorem alloc_below0 (W : World) (o : Obj) : Below W.heap.size W (W.alloc o) := (Below.refl _ _).alloc (Nat.le_refl _) _

set_option maxRecDepth 100000 in
set_option maxHeartbeats 2000000 in
theorem ins_none (a : Option Addr) (c : Nat) (cmp : Value) (w : World) :
    Calls Try.prog 65 #[.slice a 0 c, .int .i64 0, .int .i64 0, cmp] w fun e w' => e = .returned (.tuple #[]) ∧ w' = w := by
  go_enter Try.func65, Try.ntmps65
  go_wp2_with fail
  go_loopw [8] (fun ov wr => ov = .int .i64 1 ∧ wr = w) (fun _ _ => 0)
  case atStart => exact ⟨rfl, rfl⟩
  case round =>
    obtain ⟨rfl, rfl⟩ := hrel
    go_wp2
    go_end0
    exact ⟨rfl, rfl⟩
set_option maxRecDepth 100000 in
set_option maxHeartbeats 2000000 in
theorem stable_none (a : Option Addr) (c : Nat) (cmp : Value) (w : World) :
    Calls Try.prog 62 #[.slice a 0 c, .int .i64 0, cmp] w fun e w' => e = .returned (.tuple #[]) ∧ w' = w := by
  go_enter Try.func62, Try.ntmps62
  go_wp2_with fail
  go_loopw [7, 8] (fun av ov wr => av = .int .i64 0 ∧ ov = .int .i64 20 ∧ wr = w) (fun _ _ _ => 0)
  case atStart => exact ⟨rfl, rfl, rfl⟩
  case round =>
    obtain ⟨rfl, rfl, rfl⟩ := hrel
    go_wp2_with fail
    refine (ins_none a c cmp _).mono ?_
    rintro e w1 ⟨rfl, rfl⟩
    go_wp2_with fail
    go_loopw [6] (fun ov wr => ov = .int .i64 20 ∧ wr = w1) (fun _ _ => 0)
    case atStart => exact ⟨rfl, rfl⟩
    case round =>
      obtain ⟨rfl, rfl⟩ := hrel
      go_wp2
      go_end0
      exact ⟨rfl, rfl⟩
set_option maxRecDepth 100000 in
set_option maxHeartbeats 2000000 in
theorem sort_none (a : Option Addr) (c : Nat) (cmp : Value) (w : World) :
    Calls Try.prog 55 #[.slice a 0 c, cmp] w fun e w' => e = .returned (.tuple #[]) ∧ w' = w := by
  go_enter Try.func55, Try.ntmps55
  go_wp2_with fail
  refine (stable_none a c cmp w).mono ?_
  rintro e w1 ⟨rfl, rfl⟩
  go_wp2
  go_end0
  exact ⟨rfl, rfl⟩
/-- The order by keys. -/
abbrev ordV : Value := .func (.func 25) #[] #[]
theorem eq_ord (w : World) : (binOp .eql 47 ordV .nilFunc).run Try.prog w = .ok (.bool false) w := by kernel_rfl
theorem eq_nilf (w : World) : (binOp .eql 47 .nilFunc .nilFunc).run Try.prog w = .ok (.bool true) w := by kernel_rfl
theorem eq_nils (w : World) : (binOp .eql 61 (.slice none 0 0) (.slice none 0 0)).run Try.prog w = .ok (.bool true) w := by kernel_rfl
theorem make_i (w : World) : (Instr.makeSlice 61 (.int .i64 0) (.int .i64 0)).run Try.prog w = .ok (.slice (some ⟨w.heap.size, 0, none⟩) 0 0) (w.alloc (.cells #[] 65)) := by kernel_rfl
theorem make_t (w : World) : (Instr.makeSlice 23 (.int .i64 0) (.int .i64 0)).run Try.prog w = .ok (.slice (some ⟨w.heap.size, 0, none⟩) 0 0) (w.alloc (.cells #[] 31)) := by kernel_rfl
set_option maxRecDepth 100000 in
set_option maxHeartbeats 2000000 in
theorem gather_none (a : Option Addr) (c : Nat) (w : World) :
    Calls Try.prog 40 #[ordV, .slice a 0 c] w fun e w' => e = .returned (.slice none 0 0) ∧ Below w.heap.size w w' := by
  have hmf : ∀ (fn : Fn) (first cap : Array Value) (w : World), (Instr.makeFunc fn first cap).run Try.prog w = .ok (.func fn first cap) w := fun _ _ _ _ => rfl
  have B0 := hid (alloc_below0 w (.cells #[ordV] 47))
  go_enter Try.func40, Try.ntmps40
  go_wp2_with fail
  generalize w.alloc (.cells #[ordV] 47) = V0 at B0 ⊢
  refine (sort_none a c _ V0).mono ?_
  rintro e w1 ⟨rfl, rfl⟩
  go_wp2_with fail
  go_loopw [5, 14] (fun l ov wr => l = .slice none 0 0 ∧ ov = .int .i64 0 ∧ wr = w1) (fun _ _ _ => 0)
  case atStart => exact ⟨rfl, rfl, rfl⟩
  case round =>
    obtain ⟨rfl, rfl, rfl⟩ := hrel
    go_wp2
    go_ret
    exact ⟨rfl, B0.out⟩
/-- A bag with nothing in it. -/
def BgBox (W : World) (B : Nat) : Prop := W.heap[B]? = some (.cells #[ordV, .slice none 0 0] 63 (0, 0))
theorem BgBox.lt {W : World} {B : Nat} (h : BgBox W B) : B < W.heap.size := (Array.getElem?_eq_some_iff.1 h).1
theorem BgBox.below {W W' : World} {B : Nat} (h : BgBox W B) (hb : Below W.heap.size W W') : BgBox W' B := (hb.block B h.lt).trans h
theorem BgBox.c1 {W : World} {B : Nat} (h : BgBox W B) : W.cell? ⟨B, 1, none⟩ = some (.slice none 0 0) := by simp [World.cell?, show W.heap[B]? = _ from h]

set_option maxRecDepth 100000 in
set_option maxHeartbeats 2000000 in
theorem of_none (a : Option Addr) (c : Nat) (w : World) :
    Calls Try.prog 24 #[ordV, .slice a 0 c] w fun e w' => ∃ B, e = .returned (.pointer (some ⟨B, 0, none⟩)) ∧ BgBox w' B ∧ w.heap.size ≤ B ∧ Below w.heap.size w w' := by
  have h1 := eq_ord; have h2 := make_i
  have B0 := hid (alloc_below0 w (.cells #[] 65))
  go_enter Try.func24, Try.ntmps24
  go_wp2_with fail
  generalize hV : w.alloc (.cells #[] 65) = V0 at B0 ⊢
  clear hV
  go_loopw [15] (fun ov wr => ov = .int .i64 0 ∧ wr = V0) (fun _ _ => 0)
  case atStart => exact ⟨rfl, rfl⟩
  case round =>
    obtain ⟨rfl, rfl⟩ := hrel
    go_wp2_with fail
    refine (gather_none _ _ wr).mono ?_
    rintro e w2 ⟨rfl, hb2⟩
    have L2 := hid (B0.out.trans (hb2.mono B0.out.size))
    clear hb2
    go_wp2
    go_ret
    exact ⟨w2.heap.size, rfl, World.alloc_heap_new w2 _, L2.out.size, L2.out.alloc L2.out.size _⟩
set_option maxRecDepth 100000 in
theorem of_nil (v : Value) (a : Option Addr) (n c : Nat) (hv : v = .slice a n c) (w : World) :
    Calls Try.prog 24 #[.nilFunc, v] w fun e w' => e = .returned (.pointer none) ∧ w' = w := by
  subst hv
  have h1 := eq_nilf
  go_enter Try.func24, Try.ntmps24
  go_wp2
  go_ret
  exact ⟨rfl, rfl⟩
set_option maxRecDepth 100000 in
theorem new_nil (w : World) : Calls Try.prog 26 #[.nilFunc] w fun e w' => e = .returned (.pointer none) ∧ w' = w := by
  go_enter Try.func26, Try.ntmps26
  go_wp2_with fail
  refine (of_nil _ none 0 0 rfl w).mono ?_
  rintro e w1 ⟨rfl, rfl⟩
  go_wp2
  go_ret
  exact ⟨rfl, rfl⟩
set_option maxRecDepth 100000 in
set_option maxHeartbeats 2000000 in
theorem len_none (B : Nat) (w : World) (h : BgBox w B) : Calls Try.prog 30 #[.pointer (some ⟨B, 0, none⟩)] w fun e w' => e = .returned (.int .i64 0) ∧ w' = w := by
  have c1 := h.c1
  go_enter Try.func30, Try.ntmps30
  go_wp2_with fail
  go_loopw [3, 11] (fun n ov wr => n = .int .i64 0 ∧ ov = .int .i64 0 ∧ wr = w) (fun _ _ _ => 0)
  case atStart => exact ⟨rfl, rfl, rfl⟩
  case round =>
    obtain ⟨rfl, rfl, rfl⟩ := hrel
    go_wp2
    go_ret
    exact ⟨rfl, rfl⟩
set_option maxRecDepth 100000 in
theorem clone_none (w : World) : Calls Try.prog 54 #[.slice none 0 0] w fun e w' => e = .returned (.slice none 0 0) ∧ w' = w := by
  have h1 := eq_nils
  go_enter Try.func54, Try.ntmps54
  go_wp2
  go_ret
  exact ⟨rfl, rfl⟩
set_option maxRecDepth 100000 in
theorem items_none (B : Nat) (w : World) (h : BgBox w B) : Calls Try.prog 36 #[.pointer (some ⟨B, 0, none⟩)] w fun e w' => e = .returned (.slice none 0 0) ∧ w' = w := by
  have c1 := h.c1
  go_enter Try.func36, Try.ntmps36
  go_wp2_with fail
  refine (clone_none w).mono ?_
  rintro e w1 ⟨rfl, rfl⟩
  go_wp2
  go_ret
  exact ⟨rfl, rfl⟩
set_option maxRecDepth 100000 in
set_option maxHeartbeats 2000000 in
theorem list_none (B : Nat) (w : World) (h : BgBox w B) : Calls Try.prog 37 #[.pointer (some ⟨B, 0, none⟩)] w fun e w' => ∃ a c, e = .returned (.slice a 0 c) ∧ Below w.heap.size w w' := by
  have HB := hid h
  go_enter Try.func37, Try.ntmps37
  go_wp2_with fail
  refine (len_none B w HB.out).mono ?_
  rintro e w1 ⟨rfl, rfl⟩
  have h2 := make_t
  have B0 := hid (alloc_below0 w1 (.cells #[] 31))
  have c1 := (HB.out.below B0.out).c1
  go_wp2_with fail
  generalize hV : w1.alloc (.cells #[] 31) = V0 at B0 c1 ⊢
  clear hV
  go_loopw [3, 14] (fun l ov wr => (∃ a c, l = .slice a 0 c) ∧ ov = .int .i64 0 ∧ wr = V0) (fun _ _ _ => 0)
  case atStart => exact ⟨⟨_, _, rfl⟩, rfl, rfl⟩
  case round =>
    obtain ⟨⟨a, c, rfl⟩, rfl, rfl⟩ := hrel
    go_wp2
    go_ret
    exact ⟨_, _, rfl, B0.out⟩
set_option maxRecDepth 100000 in
theorem new_ord (w : World) : Calls Try.prog 26 #[ordV] w fun e w' => ∃ B, e = .returned (.pointer (some ⟨B, 0, none⟩)) ∧ BgBox w' B ∧ w.heap.size ≤ B ∧ Below w.heap.size w w' := by
  go_enter Try.func26, Try.ntmps26
  go_wp2_with fail
  refine (of_none none 0 w).mono ?_
  rintro e w1 ⟨B, rfl, hB, hz, hb⟩
  have HB := hid hB; have HL := hid hb
  clear hB hb
  go_wp2
  go_ret
  exact ⟨B, rfl, HB.out, hz, HL.out⟩
/-- The document's bag with nothing in it. -/
def YBox (W : World) (B : Nat) : Prop := W.heap[B]? = some (.cells #[.slice none 0 0] 27 (0, 0))
theorem YBox.lt {W : World} {B : Nat} (h : YBox W B) : B < W.heap.size := (Array.getElem?_eq_some_iff.1 h).1
theorem YBox.below {W W' : World} {B : Nat} (h : YBox W B) (hb : Below W.heap.size W W') : YBox W' B := (hb.block B h.lt).trans h
theorem YBox.c0 {W : World} {B : Nat} (h : YBox W B) : W.cell? ⟨B, 0, none⟩ = some (.slice none 0 0) := by simp [World.cell?, show W.heap[B]? = _ from h]
theorem YBox.f {W : World} {B : Nat} (h : YBox W B) : W.frozen? ⟨B, 0, none⟩ = false := by simp [World.frozen?, show W.heap[B]? = _ from h]
set_option maxRecDepth 100000 in
set_option maxHeartbeats 2000000 in
theorem rlen_none (w : World) : Calls Try.prog 12 #[.agg #[.slice none 0 0]] w fun e w' => e = .returned (.int .i64 0) ∧ Below w.heap.size w w' := by
  have B0 := hid (alloc_below0 w (.cells #[.slice none 0 0] 27))
  have c0 : (w.alloc (.cells #[.slice none 0 0] 27)).cell? ⟨w.heap.size, 0, none⟩ = some (.slice none 0 0) := by simp
  go_enter Try.func12, Try.ntmps12
  go_wp2_with fail
  generalize hV : w.alloc (.cells #[.slice none 0 0] 27) = V0 at B0 c0 ⊢
  clear hV
  go_loopw [3, 4] (fun n ov wr => n = .int .i64 0 ∧ ov = .int .i64 0 ∧ wr = V0) (fun _ _ _ => 0)
  case atStart => exact ⟨rfl, rfl, rfl⟩
  case round =>
    obtain ⟨rfl, rfl, rfl⟩ := hrel
    go_wp2
    go_ret
    exact ⟨rfl, B0.out⟩
set_option maxRecDepth 100000 in
set_option maxHeartbeats 2000000 in
theorem rlist_none (w : World) : Calls Try.prog 38 #[.agg #[.slice none 0 0]] w fun e w' => e = .returned (.slice none 0 0) ∧ Below w.heap.size w w' := by
  have B0 := hid (alloc_below0 w (.cells #[.slice none 0 0] 27))
  have c0 : (w.alloc (.cells #[.slice none 0 0] 27)).cell? ⟨w.heap.size, 0, none⟩ = some (.slice none 0 0) := by simp
  go_enter Try.func38, Try.ntmps38
  go_wp2_with fail
  generalize hV : w.alloc (.cells #[.slice none 0 0] 27) = V0 at B0 c0 ⊢
  clear hV
  go_loopw [3, 4] (fun l ov wr => l = .slice none 0 0 ∧ ov = .int .i64 0 ∧ wr = V0) (fun _ _ _ => 0)
  case atStart => exact ⟨rfl, rfl, rfl⟩
  case round =>
    obtain ⟨rfl, rfl, rfl⟩ := hrel
    go_wp2
    go_ret
    exact ⟨rfl, B0.out⟩
theorem load_y {w : World} {B : Nat} (h : YBox w B) : (loadVar 27 ⟨B, 0, none⟩).run Try.prog w = .ok (.agg #[.slice none 0 0]) w :=
  run_loadVar_row w B 27 27 _ (0, 0) _ h Try.underlying27 rfl (by kernel_rfl)
theorem results_tc {fn : Func} {tmps : Array Value} {w : World} {B : Nat} (h : fn.results = #[.tmp 2, .cell 3 27]) (h3 : tmps.getD 3 undef = .pointer (some ⟨B, 0, none⟩)) (hx : YBox w B) : (results fn tmps).run Try.prog w = .ok (.tuple #[tmps.getD 2 undef, .agg #[.slice none 0 0]]) w := by
  have h3' : tmps[3]?.getD undef = .pointer (some ⟨B, 0, none⟩) := by simpa using h3
  simp [results, h, h3', asAddr, load_y hx]
theorem below_cell {w w' : World} (hb : Below w.heap.size w w') : ∀ p v, w.cell? p = some v → w'.cell? p = some v := fun p v h => by
  rw [hb.cell (World.block_lt_of_cell? w p h)]; exact h
set_option maxRecDepth 100000 in
set_option maxHeartbeats 2000000 in
theorem made_none (w : World) : Calls Try.prog 9 #[.slice none 0 0] w fun e w' => ∃ B, e = .returned (.tuple #[.pointer (some ⟨B, 0, none⟩), .agg #[.slice none 0 0]]) ∧ BgBox w' B ∧ Below w.heap.size w w' := by
  have X0 : YBox (w.alloc (.cells #[.slice none 0 0] 27)) w.heap.size := World.alloc_heap_new w _
  have B0 := hid (alloc_below0 w (.cells #[.slice none 0 0] 27))
  have HX0 := hid X0
  clear X0
  go_enter Try.func9, Try.ntmps9
  go_wp2_with fail
  generalize hV : w.alloc (.cells #[.slice none 0 0] 27) = V0 at B0 HX0 ⊢
  clear hV
  refine (new_ord V0).mono ?_
  rintro e w1 ⟨B, rfl, hB, hz, hb⟩
  have hV0 : w.heap.size < V0.heap.size := HX0.out.lt
  have B1 := alloc_below0 w1 (.cells #[.slice none 0 0] 27)
  have HB := hid (hB.below B1)
  have HX := hid ((HX0.out.below hb).below B1)
  have Y1 : Hid (YBox (w1.alloc (.cells #[.slice none 0 0] 27)) w1.heap.size) := World.alloc_heap_new w1 _
  have L1 : Hid (Below w.heap.size w (w1.alloc (.cells #[.slice none 0 0] 27))) := hid ((B0.out.trans (hb.mono B0.out.size)).alloc (B0.out.trans (hb.mono B0.out.size)).size _)
  clear hB hb B1
  go_wp2_with fail
  generalize hV : w1.alloc (.cells #[.slice none 0 0] 27) = V1 at HB HX Y1 L1 ⊢
  have hw1 : w1.heap.size < V1.heap.size := Y1.out.lt
  clear hV
  go_loopw [6] (fun ov wr => ov = .int .i64 0 ∧ wr = V1) (fun _ _ => 0)
  case atStart => exact ⟨rfl, rfl⟩
  case round =>
    obtain ⟨rfl, rfl⟩ := hrel
    have y0 := Y1.out.c0; have x0 := HX.out.c0; have z0 := HX.out.f
    go_wp2
    go_region
    all_goals
      go_wp2
      have hY : YBox (wr.setCell ⟨w.heap.size, 0, none⟩ (.slice none 0 0)).drew w.heap.size := heap_setCell_same wr w.heap.size 0 #[.slice none 0 0] 27 (.slice none 0 0) HX.out
      refine bodyPost_ret (results_tc rfl rfl hY) rfl ?_
      exact ⟨B, rfl, (Below.heap_setCell wr ⟨w.heap.size, 0, none⟩ (.slice none 0 0) B (show B ≠ w.heap.size by omega)).trans HB.out, (L1.out.setCell (p := ⟨w.heap.size, 0, none⟩) (Nat.le_refl _) _).drew⟩
set_option maxRecDepth 100000 in
set_option maxHeartbeats 4000000 in
theorem reads_none (B : Nat) (w : World) (h : BgBox w B) : Calls Try.prog 13 #[.pointer (some ⟨B, 0, none⟩), .agg #[.slice none 0 0]] w fun e w' => e = .returned (.bool true) ∧ Below w.heap.size w w' := by
  have B0 := alloc_below0 w (.cells #[.slice none 0 0] 27)
  have HB := hid (h.below B0)
  have Y0 : Hid (YBox (w.alloc (.cells #[.slice none 0 0] 27)) w.heap.size) := World.alloc_heap_new w _
  have L0 := hid B0
  clear B0 h
  go_enter Try.func13, Try.ntmps13
  go_wp2_with fail
  generalize hV : w.alloc (.cells #[.slice none 0 0] 27) = V0 at HB Y0 L0 ⊢
  clear hV
  refine (items_none B V0 HB.out).mono ?_
  rintro e w1 ⟨rfl, rfl⟩
  have y0 := Y0.out.c0
  have HR : Hid (∀ W, Calls Try.prog 12 #[.agg #[.slice none 0 0]] W fun e w' => e = .returned (.int .i64 0) ∧ Below W.heap.size W w') := hid rlen_none
  go_wp2_with fail
  go_cut [26] (fun v wc => v = .bool false ∧ Below w1.heap.size w1 wc)
  case first =>
    go_region_held3 (fun w' => w'.cell? ⟨w.heap.size, 0, none⟩ = some (.slice none 0 0)) ((first
      | assumption | (go_split_ands; exact below_cell HB3.out _ _ y0) | go_keep | fail)) ((first
      | (go_at_call 30; refine Calls.mono (len_none B _ HB.out) ?_; rintro e w2 ⟨rfl, rfl⟩)
      | (go_at_call 12; refine Calls.mono (HR.out _) ?_; rintro e w3 ⟨rfl, hb3⟩; have HB3 := hid hb3; clear hb3)
      | fail))
    all_goals (go_wp2_with fail; go_meet)
    all_goals exact ⟨rfl, ((Below.refl _ w1).drew).trans HB3.out⟩
  case rest =>
    obtain ⟨rfl, hbc⟩ := hcut
    have LC := hid (L0.out.trans (hbc.mono L0.out.size))
    have HBC := hid (HB.out.below hbc)
    have c0 := below_cell hbc _ _ y0
    clear hbc y0
    go_wp2_with fail
    go_loopw [6] (fun ov wr => ov = .int .i64 0 ∧ wr = wc) (fun _ _ => 0)
    case atStart => exact ⟨rfl, rfl⟩
    case round =>
      obtain ⟨rfl, rfl⟩ := hrel
      go_wp2_with fail
      refine (list_none B wr HBC.out).mono ?_
      rintro e w4 ⟨a, c, rfl, hb4⟩
      have L4 := hid (LC.out.trans (hb4.mono LC.out.size))
      have d0 := below_cell hb4 _ _ c0
      clear hb4
      go_wp2_with fail
      refine (rlist_none w4).mono ?_
      rintro e w5 ⟨rfl, hb5⟩
      have L5 := hid (L4.out.trans (hb5.mono L4.out.size))
      clear hb5 d0 c0
      go_wp2_with fail
      go_loopw [9] (fun ov wr => ov = .int .i64 0 ∧ wr = w5) (fun _ _ => 0)
      case atStart => exact ⟨rfl, rfl⟩
      case round =>
        obtain ⟨rfl, rfl⟩ := hrel
        go_wp2
        go_ret
        exact ⟨rfl, L5.out⟩
set_option maxRecDepth 100000 in
set_option maxHeartbeats 4000000 in
theorem bagOf_none (w : World) : Calls Try.prog 5 #[.slice none 0 0] w fun e w' => e = .returned (.bool true) ∧ Below w.heap.size w w' := by
  obtain ⟨K, hK, h1, h2⟩ : ∃ K, (Question.appendCap 1 0 31).cut (w.tape w.drawn (Question.appendCap 1 0 31)) = K ∧ 1 ≤ K ∧ K ≤ 9223372036854775807 := by
    refine ⟨_, rfl, ?_, ?_⟩
    · show 1 ≤ 1 + _
      omega
    · show 1 + _ % (2 ^ 63 - 1) ≤ _
      have := Nat.mod_lt (w.tape w.drawn (Question.appendCap 1 0 31)) (show 2 ^ 63 - 1 > 0 by decide)
      omega
  have HK := hid hK
  clear hK
  go_enter Try.func5, Try.ntmps5
  go_wp2_with fail
  rw [HK.out]
  obtain ⟨V, hV⟩ : ∃ V, (((w.alloc (.cells #[] 31)).alloc (.cells #[.int .i64 77, .int .i64 77] 31)).alloc (.cells (#[.int .i64 77, .int .i64 77] ++ Builtin.zeroCells #[.int .i64 0, .int .i64 0] (K - 1)) 31)).drew = V := ⟨_, rfl⟩
  have hL : Below w.heap.size w V := by
    rw [← hV]
    have b1 := alloc_below0 w (.cells #[] 31)
    have b2 := b1.trans ((alloc_below0 _ (.cells #[.int .i64 77, .int .i64 77] 31)).mono b1.size)
    exact (b2.alloc b2.size _).drew
  have hc : V.cell? ⟨w.heap.size + 1 + 1, 0, none⟩ = some (.int .i64 77) := by
    rw [← hV]
    have h := World.alloc_heap_new ((w.alloc (.cells #[] 31)).alloc (.cells #[.int .i64 77, .int .i64 77] 31)) (.cells (#[.int .i64 77, .int .i64 77] ++ Builtin.zeroCells #[.int .i64 0, .int .i64 0] (K - 1)) 31)
    rw [World.size_alloc, World.size_alloc] at h
    exact cell_box (i := 0) (v := .int .i64 77) h ((Array.getElem?_append_left (show 0 < 2 by decide)).trans rfl)
  rw [hV]
  have HL := hid hL; have HC := hid hc
  clear hV hL hc
  refine (of_none _ K V).mono ?_
  rintro e w1 ⟨B, rfl, hB, hz, hb⟩
  have HB := hid hB
  have L1 := hid (HL.out.trans (hb.mono HL.out.size))
  have C1 := hid (below_cell hb _ _ HC.out)
  clear hB hb HC HL
  go_wp2_with fail
  refine (made_none w1).mono ?_
  rintro e w2 ⟨B2, rfl, hB2, hb2⟩
  have b3 := alloc_below0 w2 (.cells #[.slice none 0 0] 27)
  have HB3 := hid ((HB.out.below hb2).below b3)
  have L3 : Hid (Below w.heap.size w (w2.alloc (.cells #[.slice none 0 0] 27))) := hid ((L1.out.trans (hb2.mono L1.out.size)).alloc (L1.out.trans (hb2.mono L1.out.size)).size _)
  have C3 := hid (below_cell b3 _ _ (below_cell hb2 _ _ C1.out))
  have Y3 : YBox (w2.alloc (.cells #[.slice none 0 0] 27)) w2.heap.size := World.alloc_heap_new w2 _
  have y0 := Y3.c0
  clear hB2 hb2 b3 Y3 C1 L1 HB
  go_wp2_with fail
  generalize w2.alloc (.cells #[.slice none 0 0] 27) = V3 at HB3 L3 C3 y0 ⊢
  refine (reads_none B V3 HB3.out).mono ?_
  rintro e w4 ⟨rfl, hb4⟩
  have L4 := hid (L3.out.trans (hb4.mono L3.out.size))
  have c4 := below_cell hb4 _ _ C3.out
  clear hb4 y0 C3 L3 HB3
  go_wp2_with fail
  go_loopw [8, 7] (fun ov ok wr => ov = .int .i64 0 ∧ ok = .bool true ∧ wr = w4) (fun _ _ _ => 0)
  case atStart => exact ⟨rfl, rfl, rfl⟩
  case round =>
    obtain ⟨rfl, rfl, rfl⟩ := hrel
    have k1 : (1 : Int) ≤ (K : Int) := by omega
    have k2 : (K : Int) ≤ 9223372036854775807 := by omega
    go_wp2
    go_ret
    exact ⟨rfl, L4.out⟩
set_option maxRecDepth 100000 in
set_option maxHeartbeats 4000000 in
theorem bagNone_walk (a : Option Addr) (n c : Nat) (w : World) : Calls Try.prog 6 #[.slice a n c] w fun e w' => e = .returned (.bool true) ∧ Below w.heap.size w w' := by
  go_enter Try.func6, Try.ntmps6
  go_wp2_with fail
  refine (bagOf_none w).mono ?_
  rintro e w1 ⟨rfl, hb⟩
  have HB := hid hb
  clear hb
  go_wp2_with fail
  refine (new_nil w1).mono ?_
  rintro e w2 ⟨rfl, rfl⟩
  go_wp2_with fail
  refine (of_nil _ a n c rfl w2).mono ?_
  rintro e w3 ⟨rfl, rfl⟩
  go_wp2
  go_ret
  exact ⟨rfl, HB.out⟩
end Go.Proofs.Ytlbmamkkbpjafaa
