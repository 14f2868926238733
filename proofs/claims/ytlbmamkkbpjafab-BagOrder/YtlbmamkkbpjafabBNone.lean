/- What the library's stable sort, Of, New, Items, Len and List do where there is nothing. -/
import Derived.Test.YtlbmamkkbpjafabRows
import Derived.WalkKit
import Derived.WalkSpells
import Derived.WalkLawsBesides
import Derived.BigQuiet
import Derived.RangeFuncNested
import Derived.RangeFuncBound
import Derived.RangeFuncCalls
import Derived.Deep.Trees
import Derived.Deep.RegionHeld3
import Derived.Deep.DeepCutAuto
import Derived.Deep.AppendLies
import Derived.Deep.AppendSrc
import Derived.Laws.AppendOwnNone
namespace Go.Proofs.Ytlbmamkkbpjafab
open Go.RowKit Go.Deep

theorem hid {p : Prop} (h : p) : Hid p := h
theorem cell_box {W : World} {b i : Nat} {T : TypeId} {cs : Array Value} {v : Value} (h : W.heap[b]? = some (.cells cs T (0, 0))) (hv : cs[i]? = some v) : W.cell? ⟨b, i, none⟩ = some v := by simp [World.cell?, h, hv]
theorem alloc_below0 (W : World) (o : Obj) : Below W.heap.size W (W.alloc o) := (Below.refl _ _).alloc (Nat.le_refl _) _

set_option maxRecDepth 100000 in
set_option maxHeartbeats 2000000 in
theorem ins_none (a : Option Addr) (c : Nat) (cmp : Value) (w : World) :
    Calls Try.prog 40 #[.slice a 0 c, .int .i64 0, .int .i64 0, cmp] w fun e w' => e = .returned (.tuple #[]) ∧ w' = w := by
  go_enter Try.func40, Try.ntmps40
  go_wp2_with fail
  go_loopw [8] (fun ov wr => ov = .int .i64 1 ∧ wr = w) (fun _ _ => 0)
  case atStart => exact ⟨rfl, rfl⟩
  case round =>
    obtain ⟨rfl, rfl⟩ := hrel
    go_wp2
    go_end0
    exact ⟨rfl, rfl⟩
set_option maxRecDepth 100000 in
set_option maxHeartbeats 2000000 in
theorem stable_none (a : Option Addr) (c : Nat) (cmp : Value) (w : World) :
    Calls Try.prog 37 #[.slice a 0 c, .int .i64 0, cmp] w fun e w' => e = .returned (.tuple #[]) ∧ w' = w := by
  go_enter Try.func37, Try.ntmps37
  go_wp2_with fail
  go_loopw [7, 8] (fun av ov wr => av = .int .i64 0 ∧ ov = .int .i64 20 ∧ wr = w) (fun _ _ _ => 0)
  case atStart => exact ⟨rfl, rfl, rfl⟩
  case round =>
    obtain ⟨rfl, rfl, rfl⟩ := hrel
    go_wp2_with fail
    refine (ins_none a c cmp _).mono ?_
    rintro e w1 ⟨rfl, rfl⟩
    go_wp2_with fail
    go_loopw [6] (fun ov wr => ov = .int .i64 20 ∧ wr = w1) (fun _ _ => 0)
    case atStart => exact ⟨rfl, rfl⟩
    case round =>
      obtain ⟨rfl, rfl⟩ := hrel
      go_wp2
      go_end0
      exact ⟨rfl, rfl⟩
set_option maxRecDepth 100000 in
set_option maxHeartbeats 2000000 in
theorem sort_none (a : Option Addr) (c : Nat) (cmp : Value) (w : World) :
    Calls Try.prog 32 #[.slice a 0 c, cmp] w fun e w' => e = .returned (.tuple #[]) ∧ w' = w := by
  go_enter Try.func32, Try.ntmps32
  go_wp2_with fail
  refine (stable_none a c cmp w).mono ?_
  rintro e w1 ⟨rfl, rfl⟩
  go_wp2
  go_end0
  exact ⟨rfl, rfl⟩
/-- The order by keys. -/
abbrev ordV : Value := .func (.func 5) #[] #[]
theorem eq_ord (w : World) : (binOp .eql 27 ordV .nilFunc).run Try.prog w = .ok (.bool false) w := by kernel_rfl
theorem eq_nilf (w : World) : (binOp .eql 27 .nilFunc .nilFunc).run Try.prog w = .ok (.bool true) w := by kernel_rfl
theorem eq_nils (w : World) : (binOp .eql 29 (.slice none 0 0) (.slice none 0 0)).run Try.prog w = .ok (.bool true) w := by kernel_rfl
theorem make_i (w : World) : (Instr.makeSlice 29 (.int .i64 0) (.int .i64 0)).run Try.prog w = .ok (.slice (some ⟨w.heap.size, 0, none⟩) 0 0) (w.alloc (.cells #[] 32)) := by kernel_rfl
theorem make_t (w : World) : (Instr.makeSlice 22 (.int .i64 0) (.int .i64 0)).run Try.prog w = .ok (.slice (some ⟨w.heap.size, 0, none⟩) 0 0) (w.alloc (.cells #[] 26)) := by kernel_rfl
set_option maxRecDepth 100000 in
set_option maxHeartbeats 2000000 in
theorem gather_none (a : Option Addr) (c : Nat) (w : World) :
    Calls Try.prog 24 #[ordV, .slice a 0 c] w fun e w' => e = .returned (.slice none 0 0) ∧ Below w.heap.size w w' := by
  have hmf : ∀ (fn : Fn) (first cap : Array Value) (w : World), (Instr.makeFunc fn first cap).run Try.prog w = .ok (.func fn first cap) w := fun _ _ _ _ => rfl
  have B0 := hid (alloc_below0 w (.cells #[ordV] 27))
  go_enter Try.func24, Try.ntmps24
  go_wp2_with fail
  generalize w.alloc (.cells #[ordV] 27) = V0 at B0 ⊢
  refine (sort_none a c _ V0).mono ?_
  rintro e w1 ⟨rfl, rfl⟩
  go_wp2_with fail
  go_loopw [5, 14] (fun l ov wr => l = .slice none 0 0 ∧ ov = .int .i64 0 ∧ wr = w1) (fun _ _ _ => 0)
  case atStart => exact ⟨rfl, rfl, rfl⟩
  case round =>
    obtain ⟨rfl, rfl, rfl⟩ := hrel
    go_wp2
    go_ret
    exact ⟨rfl, B0.out⟩
/-- A bag with nothing in it. -/
def BgBox (W : World) (B : Nat) : Prop := W.heap[B]? = some (.cells #[ordV, .slice none 0 0] 42 (0, 0))
theorem BgBox.lt {W : World} {B : Nat} (h : BgBox W B) : B < W.heap.size := (Array.getElem?_eq_some_iff.1 h).1
theorem BgBox.below {W W' : World} {B : Nat} (h : BgBox W B) (hb : Below W.heap.size W W') : BgBox W' B := (hb.block B h.lt).trans h
theorem BgBox.c1 {W : World} {B : Nat} (h : BgBox W B) : W.cell? ⟨B, 1, none⟩ = some (.slice none 0 0) := by simp [World.cell?, show W.heap[B]? = _ from h]

set_option maxRecDepth 100000 in
set_option maxHeartbeats 2000000 in
theorem of_none (a : Option Addr) (c : Nat) (w : World) :
    Calls Try.prog 12 #[ordV, .slice a 0 c] w fun e w' => ∃ B, e = .returned (.pointer (some ⟨B, 0, none⟩)) ∧ BgBox w' B ∧ w.heap.size ≤ B ∧ Below w.heap.size w w' := by
  have h1 := eq_ord; have h2 := make_i
  have B0 := hid (alloc_below0 w (.cells #[] 32))
  go_enter Try.func12, Try.ntmps12
  go_wp2_with fail
  generalize hV : w.alloc (.cells #[] 32) = V0 at B0 ⊢
  clear hV
  go_loopw [15] (fun ov wr => ov = .int .i64 0 ∧ wr = V0) (fun _ _ => 0)
  case atStart => exact ⟨rfl, rfl⟩
  case round =>
    obtain ⟨rfl, rfl⟩ := hrel
    go_wp2_with fail
    refine (gather_none _ _ wr).mono ?_
    rintro e w2 ⟨rfl, hb2⟩
    have L2 := hid (B0.out.trans (hb2.mono B0.out.size))
    clear hb2
    go_wp2
    go_ret
    exact ⟨w2.heap.size, rfl, World.alloc_heap_new w2 _, L2.out.size, L2.out.alloc L2.out.size _⟩
set_option maxRecDepth 100000 in
theorem of_nil (v : Value) (a : Option Addr) (n c : Nat) (hv : v = .slice a n c) (w : World) :
    Calls Try.prog 12 #[.nilFunc, v] w fun e w' => e = .returned (.pointer none) ∧ w' = w := by
  subst hv
  have h1 := eq_nilf
  go_enter Try.func12, Try.ntmps12
  go_wp2
  go_ret
  exact ⟨rfl, rfl⟩
set_option maxRecDepth 100000 in
theorem new_nil (w : World) : Calls Try.prog 4 #[.nilFunc] w fun e w' => e = .returned (.pointer none) ∧ w' = w := by
  go_enter Try.func4, Try.ntmps4
  go_wp2_with fail
  refine (of_nil _ none 0 0 rfl w).mono ?_
  rintro e w1 ⟨rfl, rfl⟩
  go_wp2
  go_ret
  exact ⟨rfl, rfl⟩
set_option maxRecDepth 100000 in
set_option maxHeartbeats 2000000 in
theorem len_none (B : Nat) (w : World) (h : BgBox w B) : Calls Try.prog 11 #[.pointer (some ⟨B, 0, none⟩)] w fun e w' => e = .returned (.int .i64 0) ∧ w' = w := by
  have c1 := h.c1
  go_enter Try.func11, Try.ntmps11
  go_wp2_with fail
  go_loopw [3, 11] (fun n ov wr => n = .int .i64 0 ∧ ov = .int .i64 0 ∧ wr = w) (fun _ _ _ => 0)
  case atStart => exact ⟨rfl, rfl, rfl⟩
  case round =>
    obtain ⟨rfl, rfl, rfl⟩ := hrel
    go_wp2
    go_ret
    exact ⟨rfl, rfl⟩
set_option maxRecDepth 100000 in
theorem clone_none (w : World) : Calls Try.prog 17 #[.slice none 0 0] w fun e w' => e = .returned (.slice none 0 0) ∧ w' = w := by
  have h1 := eq_nils
  go_enter Try.func17, Try.ntmps17
  go_wp2
  go_ret
  exact ⟨rfl, rfl⟩
set_option maxRecDepth 100000 in
theorem items_none (B : Nat) (w : World) (h : BgBox w B) : Calls Try.prog 7 #[.pointer (some ⟨B, 0, none⟩)] w fun e w' => e = .returned (.slice none 0 0) ∧ w' = w := by
  have c1 := h.c1
  go_enter Try.func7, Try.ntmps7
  go_wp2_with fail
  refine (clone_none w).mono ?_
  rintro e w1 ⟨rfl, rfl⟩
  go_wp2
  go_ret
  exact ⟨rfl, rfl⟩
set_option maxRecDepth 100000 in
theorem new_ord (w : World) : Calls Try.prog 4 #[ordV] w fun e w' => ∃ B, e = .returned (.pointer (some ⟨B, 0, none⟩)) ∧ BgBox w' B ∧ w.heap.size ≤ B ∧ Below w.heap.size w w' := by
  go_enter Try.func4, Try.ntmps4
  go_wp2_with fail
  refine (of_none none 0 w).mono ?_
  rintro e w1 ⟨B, rfl, hB, hz, hb⟩
  have HB := hid hB; have HL := hid hb
  clear hB hb
  go_wp2
  go_ret
  exact ⟨B, rfl, HB.out, hz, HL.out⟩
theorem below_cell {w w' : World} (hb : Below w.heap.size w w') : ∀ p v, w.cell? p = some v → w'.cell? p = some v := fun p v h => by
  rw [hb.cell (World.block_lt_of_cell? w p h)]; exact h
end Go.Proofs.Ytlbmamkkbpjafab
