/- What read answers: a fault, told with its place; or what was read. -/
import Derived.Test.YtkcbhbkldcebiaaZCheck
import Derived.Defers
import Derived.Recover
import Derived.Laws.Pointers
namespace Go.Proofs.Ytkcbhbkldcebiaa
open Go.RowKit Go.Deep

theorem frozen_box {W : World} {b i : Nat} {T : TypeId} {cs : Array Value} (h : W.heap[b]? = some (.cells cs T (0, 0))) : W.frozen? ⟨b, i, none⟩ = false := by simp [World.frozen?, h]
theorem cell_box {W : World} {b i : Nat} {T : TypeId} {cs : Array Value} {v : Value} (h : W.heap[b]? = some (.cells cs T (0, 0))) (hv : cs[i]? = some v) : W.cell? ⟨b, i, none⟩ = some v := by simp [World.cell?, h, hv]

set_option maxRecDepth 100000 in
set_option maxHeartbeats 1000000 in
theorem catch_fault (p q : Nat) (e : Int) (at_ : Nat) (x y : Int) (older : List PanicEntry) (w : World) (hpq : p ≠ q) (hp : w.cell? ⟨p, 0, none⟩ = some (.int .i64 x)) (hq : w.cell? ⟨q, 0, none⟩ = some (.int .i64 y)) (fp : w.frozen? ⟨p, 0, none⟩ = false) (fq : w.frozen? ⟨q, 0, none⟩ = false) :
    CallsD Try.prog 54 #[.pointer (some ⟨p, 0, none⟩), .pointer (some ⟨q, 0, none⟩)] (.panicking ({ v := .iface 96 (.agg #[.int .i64 e, .int .i64 at_]), recovered := false } :: older)) w fun r u w' =>
      r = .returned (.tuple #[]) ∧ u = .panicking ({ v := .iface 96 (.agg #[.int .i64 e, .int .i64 at_]), recovered := true } :: older) ∧ w'.cell? ⟨p, 0, none⟩ = some (.int .i64 e) ∧ w'.cell? ⟨q, 0, none⟩ = some (.int .i64 at_) ∧ Fr (fun k => k = p ∨ k = q) w w' := by
  refine callsD_of_wpS Try.func54 rfl fun c₀ cs hu => ?_
  apply wpS_seq
  apply wpS_region
  simp [wpOpsS, go_sem, recoverD, hu, Try.ntmps54, Exit.thenS]
  refine wpS_of_wp ?_
  change Code.wp _ _ _ { tmps := #[.pointer (some ⟨p, 0, none⟩), .pointer (some ⟨q, 0, none⟩), .iface 96 (.agg #[.int .i64 e, .int .i64 at_]), undef, .iface 96 (.agg #[.int .i64 e, .int .i64 at_]), undef, undef, undef, undef, undef, undef, undef, undef], defers := [] } _
  have hta : ∀ (v : Value) (w : World), (Instr.typeAssert (.iface 96 v) 20 96 false).run Try.prog w = .ok v w := fun v w => by kernel_rfl
  have B0 := alloc_below0 w (.cells #[.int .i64 e, .int .i64 at_] 96)
  have C0 : (w.alloc (.cells #[.int .i64 e, .int .i64 at_] 96)).heap[w.heap.size]? = some (.cells #[.int .i64 e, .int .i64 at_] 96 (0, 0)) := World.alloc_heap_new w _
  have k0 : (w.alloc (.cells #[.int .i64 e, .int .i64 at_] 96)).cell? ⟨w.heap.size, 0, none⟩ = some (.int .i64 e) := cell_box C0 rfl
  have k1 : (w.alloc (.cells #[.int .i64 e, .int .i64 at_] 96)).cell? ⟨w.heap.size, 1, none⟩ = some (.int .i64 at_) := cell_box C0 rfl
  have hp' := below_cell B0 _ _ hp; have hq' := below_cell B0 _ _ hq
  have hpl : p < w.heap.size := World.block_lt_of_cell? w _ hp
  have hql : q < w.heap.size := World.block_lt_of_cell? w _ hq
  have fp' : (w.alloc (.cells #[.int .i64 e, .int .i64 at_] 96)).frozen? ⟨p, 0, none⟩ = false := (World.frozen?_of_block (B0.block p hpl)).trans fp
  have fq' : (w.alloc (.cells #[.int .i64 e, .int .i64 at_] 96)).frozen? ⟨q, 0, none⟩ = false := (World.frozen?_of_block (B0.block q hql)).trans fq
  have hqp : ¬ q = p := fun h => hpq h.symm
  have n1 : ¬ w.heap.size = p := by omega
  have n2 : ¬ w.heap.size = q := by omega
  have n3 : ¬ p = w.heap.size := by omega
  have n4 : ¬ q = w.heap.size := by omega
  have FB := hid (Fr.of_below (A := fun k => k = p ∨ k = q) B0)
  clear B0 C0
  go_wp2
  generalize w.alloc (.cells #[.int .i64 e, .int .i64 at_] 96) = V0 at FB k0 k1 hp' hq' fp' fq' ⊢
  go_region
  all_goals
    have E1 : ((V0.setCell ⟨p, 0, none⟩ (.int .i64 e)).setCell ⟨q, 0, none⟩ (.int .i64 at_)).cell? ⟨p, 0, none⟩ = some (.int .i64 e) := (World.cell?_of_block (a := ⟨p, 0, none⟩) (set_far hpq _)).trans (World.cell?_setCell_same _ _ _ hp')
    have E2 : ((V0.setCell ⟨p, 0, none⟩ (.int .i64 e)).setCell ⟨q, 0, none⟩ (.int .i64 at_)).cell? ⟨q, 0, none⟩ = some (.int .i64 at_) := World.cell?_setCell_same _ _ _ ((World.cell?_of_block (a := ⟨q, 0, none⟩) (set_far hqp _)).trans hq')
    have E3 : Fr (fun k => k = p ∨ k = q) w (((V0.setCell ⟨p, 0, none⟩ (.int .i64 e)).setCell ⟨q, 0, none⟩ (.int .i64 at_)).drew) := FB.out.trans ⟨(((Below.refl _ V0).setCell (p := ⟨p, 0, none⟩) (Nat.zero_le _) _).setCell (p := ⟨q, 0, none⟩) (Nat.zero_le _) _).drew, fun k hk hn => (set_far (fun h => hn (.inr h)) _).trans (set_far (fun h => hn (.inl h)) _)⟩
    exact ⟨rfl, _, rfl, _, results_none rfl _ _ _, rfl, rfl, E1, E2, E3⟩

set_option maxRecDepth 100000 in
theorem catch_none (p q : Nat) (w : World) :
    CallsD Try.prog 54 #[.pointer (some ⟨p, 0, none⟩), .pointer (some ⟨q, 0, none⟩)] .returning w fun r u w' => r = .returned (.tuple #[]) ∧ u = .returning ∧ w' = w := by
  refine callsD_of_wpS Try.func54 rfl fun c₀ cs hu => ?_
  apply wpS_seq
  apply wpS_region
  simp [wpOpsS, go_sem, recoverD, hu, Try.ntmps54, Exit.thenS]
  refine wpS_of_wp ?_
  change Code.wp _ _ _ { tmps := #[.pointer (some ⟨p, 0, none⟩), .pointer (some ⟨q, 0, none⟩), .nilIface, undef, .nilIface, undef, undef, undef, undef, undef, undef, undef, undef], defers := [] } _
  go_wp2
  cases c₀
  simp_all [bodyPostS, results, Try.results54]

/-- What text and signature are read as: the term; or what is wrong, and where. -/
def fullR (s : ByteArray) (l : List Sym) : Except (Int × Nat) Tn := match termR s l with
  | .error e => .error e
  | .ok t => if chk l t.1 t.2 = 0 then .ok t else .error (chk l t.1 t.2, 0)
/-- How Term ends. -/
def FullEnd (w : World) (res : Except (Int × Nat) Tn) (e : Ending) (w' : World) : Prop := (match res with
    | .error q => e = .returned (.tuple #[.agg #[.string ⟨#[]⟩, .int .i64 0, .slice none 0 0], .int .i64 q.1, .int .i64 q.2])
    | .ok t => ∃ a c, e = .returned (.tuple #[.agg #[.string t.1.1, .int .i64 t.1.2, .slice a (lenF t.2) c], .int .i64 0, .int .i64 0]) ∧ OwnTm false (fun q => w.heap.size ≤ q) w' t.1 a c t.2) ∧ Below w.heap.size w w'

theorem results_c3 {fn : Func} {p q r : Tmp} {tp tq tr : TypeId} {P : Program} {tmps : Array Value} {w : World} {a b c : Addr} {x y z : Value} (h : fn.results = #[.cell p tp, .cell q tq, .cell r tr]) (hp : tmps.getD p undef = .pointer (some a)) (hq : tmps.getD q undef = .pointer (some b)) (hr : tmps.getD r undef = .pointer (some c))
    (la : (loadVar tp a).run P w = .ok x w) (lb : (loadVar tq b).run P w = .ok y w) (lc : (loadVar tr c).run P w = .ok z w) : (results fn tmps).run P w = .ok (.tuple #[x, y, z]) w := by
  have hp' : tmps[p]?.getD undef = .pointer (some a) := by simpa using hp
  have hq' : tmps[q]?.getD undef = .pointer (some b) := by simpa using hq
  have hr' : tmps[r]?.getD undef = .pointer (some c) := by simpa using hr
  simp [results, h, hp', hq', hr', asAddr, la, lb, lc]
theorem load_int {w : World} {a : Addr} {x : Int} (h : w.cell? a = some (.int .i64 x)) : (loadVar 3 a).run Try.prog w = .ok (.int .i64 x) w := by simp [go_sem, loadVar, h]
theorem load_err {w : World} {a : Addr} {x : Int} (h : w.cell? a = some (.int .i64 x)) : (loadVar 29 a).run Try.prog w = .ok (.int .i64 x) w := by simp [go_sem, loadVar, h]
theorem load_tm {w : World} {B : Nat} {x : ByteArray × Int} {v : Value} (h : XBox w B x v) : (loadVar 28 ⟨B, 0, none⟩).run Try.prog w = .ok (.agg #[.string x.1, .int .i64 x.2, v]) w :=
  run_loadVar_row w B 28 28 _ (0, 0) _ h Try.underlying28 rfl Try.size28

/-- The three results' boxes. -/
theorem three_new (w : World) : ∃ V, (((w.alloc (.cells #[.string ⟨#[]⟩, .int .i64 0, .slice none 0 0] 28)).alloc (.cells #[.int .i64 0] 29)).alloc (.cells #[.int .i64 0] 3)) = V ∧ (V.cell? ⟨w.heap.size + 1, 0, none⟩ = some (.int .i64 0) ∧ V.frozen? ⟨w.heap.size + 1, 0, none⟩ = false) ∧ (V.cell? ⟨w.heap.size + 1 + 1, 0, none⟩ = some (.int .i64 0) ∧ V.frozen? ⟨w.heap.size + 1 + 1, 0, none⟩ = false) ∧ XBox V w.heap.size (⟨#[]⟩, 0) (.slice none 0 0) ∧ Below w.heap.size w V ∧ V.heap.size = w.heap.size + 3 := by
  have X1 : XBox (w.alloc (.cells #[.string ⟨#[]⟩, .int .i64 0, .slice none 0 0] 28)) w.heap.size (⟨#[]⟩, 0) (.slice none 0 0) := World.alloc_heap_new w _
  have h2 := World.alloc_heap_new (w.alloc (.cells #[.string ⟨#[]⟩, .int .i64 0, .slice none 0 0] 28)) (.cells #[.int .i64 0] 29)
  have h3 := World.alloc_heap_new ((w.alloc (.cells #[.string ⟨#[]⟩, .int .i64 0, .slice none 0 0] 28)).alloc (.cells #[.int .i64 0] 29)) (.cells #[.int .i64 0] 3)
  have b1 := alloc_below0 w (.cells #[.string ⟨#[]⟩, .int .i64 0, .slice none 0 0] 28)
  have b2 := alloc_below0 (w.alloc (.cells #[.string ⟨#[]⟩, .int .i64 0, .slice none 0 0] 28)) (.cells #[.int .i64 0] 29)
  have b3 := alloc_below0 ((w.alloc (.cells #[.string ⟨#[]⟩, .int .i64 0, .slice none 0 0] 28)).alloc (.cells #[.int .i64 0] 29)) (.cells #[.int .i64 0] 3)
  have h2' := (b3.block _ (Nat.lt_of_lt_of_eq (Nat.lt_succ_self _) (World.size_alloc _ _).symm)).trans h2
  rw [World.size_alloc] at h2 h2' h3
  rw [World.size_alloc] at h3
  refine ⟨_, rfl, ⟨cell_box h2' rfl, frozen_box h2'⟩, ⟨cell_box h3 rfl, frozen_box h3⟩, (X1.below b2).below b3, (b1.trans (b2.mono b1.size)).trans (b3.mono (b1.trans (b2.mono b1.size)).size), by rw [World.size_alloc, World.size_alloc, World.size_alloc]⟩
/-- The three results' boxes stand. -/
structure Kept3 (w W : World) : Prop where
  p : W.cell? ⟨w.heap.size + 1, 0, none⟩ = some (.int .i64 0) ∧ W.frozen? ⟨w.heap.size + 1, 0, none⟩ = false
  q : W.cell? ⟨w.heap.size + 1 + 1, 0, none⟩ = some (.int .i64 0) ∧ W.frozen? ⟨w.heap.size + 1 + 1, 0, none⟩ = false
  r : XBox W w.heap.size (⟨#[]⟩, 0) (.slice none 0 0)
  low : Below w.heap.size w W
theorem Kept3.of {w V W : World} {o : Obj} (h1 : V.cell? ⟨w.heap.size + 1, 0, none⟩ = some (.int .i64 0) ∧ V.frozen? ⟨w.heap.size + 1, 0, none⟩ = false) (h2 : V.cell? ⟨w.heap.size + 1 + 1, 0, none⟩ = some (.int .i64 0) ∧ V.frozen? ⟨w.heap.size + 1 + 1, 0, none⟩ = false) (h3 : XBox V w.heap.size (⟨#[]⟩, 0) (.slice none 0 0)) (h4 : Below w.heap.size w V) (hs : V.heap.size = w.heap.size + 3)
    (B1 : Below V.heap.size V (V.alloc o)) (hW : Below (w.heap.size + 3) (V.alloc o) W) : Kept3 w W := by
  have hb : ∀ k, k < w.heap.size + 3 → W.heap[k]? = V.heap[k]? := fun k hk => (hW.block k hk).trans (B1.block k (by omega))
  exact ⟨⟨(World.cell?_of_block (hb (w.heap.size + 1) (by omega))).trans h1.1, (World.frozen?_of_block (hb (w.heap.size + 1) (by omega))).trans h1.2⟩, ⟨(World.cell?_of_block (hb (w.heap.size + 1 + 1) (by omega))).trans h2.1, (World.frozen?_of_block (hb (w.heap.size + 1 + 1) (by omega))).trans h2.2⟩, (hb _ (by omega)).trans h3, h4.trans ((B1.mono (by omega)).trans (hW.mono (by omega)))⟩
theorem two_sets {W : World} {p q : Nat} (hpq : p ≠ q) (hp : W.cell? ⟨p, 0, none⟩ = some (.int .i64 0)) (hq : W.cell? ⟨q, 0, none⟩ = some (.int .i64 0)) :
    ((W.setCell ⟨p, 0, none⟩ (.int .i64 0)).setCell ⟨q, 0, none⟩ (.int .i64 0)).cell? ⟨p, 0, none⟩ = some (.int .i64 0) ∧ ((W.setCell ⟨p, 0, none⟩ (.int .i64 0)).setCell ⟨q, 0, none⟩ (.int .i64 0)).cell? ⟨q, 0, none⟩ = some (.int .i64 0) ∧ ∀ k, k ≠ p → k ≠ q → ((W.setCell ⟨p, 0, none⟩ (.int .i64 0)).setCell ⟨q, 0, none⟩ (.int .i64 0)).heap[k]? = W.heap[k]? := by
  have h1 : (W.setCell ⟨p, 0, none⟩ (.int .i64 0)).cell? ⟨p, 0, none⟩ = some (.int .i64 0) := World.cell?_setCell_same _ _ _ hp
  have h2 : (W.setCell ⟨p, 0, none⟩ (.int .i64 0)).cell? ⟨q, 0, none⟩ = some (.int .i64 0) := (World.cell?_of_block (a := ⟨q, 0, none⟩) (set_far (Ne.symm hpq) _)).trans hq
  exact ⟨(World.cell?_of_block (a := ⟨p, 0, none⟩) (set_far hpq _)).trans h1, World.cell?_setCell_same _ _ _ h2, fun k h3 h4 => (set_far h4 _).trans (set_far h3 _)⟩
/-- The last statement's stores. -/
theorem five_sets {w W : World} (h : Kept3 w W) (x : ByteArray × Int) (v : Value) :
    XBox (((((W.setCell ⟨w.heap.size, 0, none⟩ (.string x.1)).setCell ⟨w.heap.size, 1, none⟩ (.int .i64 x.2)).setCell ⟨w.heap.size, 2, none⟩ v).setCell ⟨w.heap.size + 1, 0, none⟩ (.int .i64 0)).setCell ⟨w.heap.size + 1 + 1, 0, none⟩ (.int .i64 0)) w.heap.size x v ∧
    (((((W.setCell ⟨w.heap.size, 0, none⟩ (.string x.1)).setCell ⟨w.heap.size, 1, none⟩ (.int .i64 x.2)).setCell ⟨w.heap.size, 2, none⟩ v).setCell ⟨w.heap.size + 1, 0, none⟩ (.int .i64 0)).setCell ⟨w.heap.size + 1 + 1, 0, none⟩ (.int .i64 0)).cell? ⟨w.heap.size + 1, 0, none⟩ = some (.int .i64 0) ∧
    (((((W.setCell ⟨w.heap.size, 0, none⟩ (.string x.1)).setCell ⟨w.heap.size, 1, none⟩ (.int .i64 x.2)).setCell ⟨w.heap.size, 2, none⟩ v).setCell ⟨w.heap.size + 1, 0, none⟩ (.int .i64 0)).setCell ⟨w.heap.size + 1 + 1, 0, none⟩ (.int .i64 0)).cell? ⟨w.heap.size + 1 + 1, 0, none⟩ = some (.int .i64 0) ∧
    ∀ q, w.heap.size + 3 ≤ q → (((((W.setCell ⟨w.heap.size, 0, none⟩ (.string x.1)).setCell ⟨w.heap.size, 1, none⟩ (.int .i64 x.2)).setCell ⟨w.heap.size, 2, none⟩ v).setCell ⟨w.heap.size + 1, 0, none⟩ (.int .i64 0)).setCell ⟨w.heap.size + 1 + 1, 0, none⟩ (.int .i64 0)).heap[q]? = W.heap[q]? := by
  have a1 := (World.cell?_of_block (a := ⟨w.heap.size + 1, 0, none⟩) (sets_far (W := W) (B := w.heap.size) (show w.heap.size + 1 ≠ w.heap.size by omega) (.string x.1) (.int .i64 x.2) v)).trans h.p.1
  have a2 := (World.cell?_of_block (a := ⟨w.heap.size + 1 + 1, 0, none⟩) (sets_far (W := W) (B := w.heap.size) (show w.heap.size + 1 + 1 ≠ w.heap.size by omega) (.string x.1) (.int .i64 x.2) v)).trans h.q.1
  have a3 := h.r.all (x := x) v
  have a4 : ∀ q, q ≠ w.heap.size → (((W.setCell ⟨w.heap.size, 0, none⟩ (.string x.1)).setCell ⟨w.heap.size, 1, none⟩ (.int .i64 x.2)).setCell ⟨w.heap.size, 2, none⟩ v).heap[q]? = W.heap[q]? := fun q hq => sets_far hq _ _ _
  generalize (((W.setCell ⟨w.heap.size, 0, none⟩ (.string x.1)).setCell ⟨w.heap.size, 1, none⟩ (.int .i64 x.2)).setCell ⟨w.heap.size, 2, none⟩ v) = W1 at a1 a2 a3 a4 ⊢
  obtain ⟨b1, b2, b3⟩ := two_sets (show w.heap.size + 1 ≠ w.heap.size + 1 + 1 by omega) a1 a2
  exact ⟨(b3 _ (by omega) (by omega)).trans a3, b1, b2, fun q hq => (b3 q (by omega) (by omega)).trans (a4 q (by omega))⟩
/-- What a reading gives up with. -/
abbrev ftE (e : Int) (p : Nat) (b : Bool) : PanicEntry := { v := .iface 96 (.agg #[.int .i64 e, .int .i64 p]), recovered := b }
/-- The door of read, where a fault comes to it. -/
theorem door_fault {fn : Func} {ty : TypeId} {F : FuncId} {R : Ending → World → Prop} {tmps : Array Value} {e : Int} {at_ : Nat} {r p q : Nat} {W : World} {zv : Value}
    (hres : fn.results = #[.cell 6 ty, .cell 7 29, .cell 8 3]) (h6 : tmps.getD 6 undef = .pointer (some ⟨r, 0, none⟩)) (h7 : tmps.getD 7 undef = .pointer (some ⟨p, 0, none⟩)) (h8 : tmps.getD 8 undef = .pointer (some ⟨q, 0, none⟩))
    (hinv : (invoke (.fn (.func F) #[.pointer (some ⟨p, 0, none⟩), .pointer (some ⟨q, 0, none⟩)]) #[]).run Try.prog W = .ok (.enter F #[.pointer (some ⟨p, 0, none⟩), .pointer (some ⟨q, 0, none⟩)]) W)
    (hC : CallsD Try.prog F #[.pointer (some ⟨p, 0, none⟩), .pointer (some ⟨q, 0, none⟩)] (.panicking [ftE e at_ false]) W fun x u w' => x = .returned (.tuple #[]) ∧ u = .panicking [ftE e at_ true] ∧ w'.cell? ⟨p, 0, none⟩ = some (.int .i64 e) ∧ w'.cell? ⟨q, 0, none⟩ = some (.int .i64 at_) ∧ Fr (fun k => k = p ∨ k = q) W w')
    (hload : ∀ W', W'.heap[r]? = W.heap[r]? → (loadVar ty ⟨r, 0, none⟩).run Try.prog W' = .ok zv W') (hrp : r ≠ p) (hrq : r ≠ q) (hrW : r < W.heap.size)
    (hR : ∀ W', Fr (fun k => k = p ∨ k = q) W W' → R (.returned (.tuple #[zv, .int .i64 e, .int .i64 at_])) W') :
    bodyPostD Try.prog fn R (.panic [ftE e at_ false]) { tmps := tmps, defers := [{ target := .fn (.func F) #[.pointer (some ⟨p, 0, none⟩), .pointer (some ⟨q, 0, none⟩)], args := #[] }] } W := by
  refine leaves_cons (f := F) (args := #[.pointer (some ⟨p, 0, none⟩), .pointer (some ⟨q, 0, none⟩)]) (by simp) hinv ?_
  refine hC.mono ?_
  rintro x u w' ⟨rfl, rfl, hp, hq, hf⟩
  exact ⟨_, results_c3 hres h6 h7 h8 (hload w' (hf.same r hrW (fun h => h.elim hrp hrq))) (load_err hp) (load_int hq), hR w' hf⟩
/-- The door of read, where all went well. -/
theorem door_done {fn : Func} {ty : TypeId} {F : FuncId} {R : Ending → World → Prop} {tmps : Array Value} {x y : Int} {r p q : Nat} {W : World} {zv : Value}
    (hres : fn.results = #[.cell 6 ty, .cell 7 29, .cell 8 3]) (h6 : tmps.getD 6 undef = .pointer (some ⟨r, 0, none⟩)) (h7 : tmps.getD 7 undef = .pointer (some ⟨p, 0, none⟩)) (h8 : tmps.getD 8 undef = .pointer (some ⟨q, 0, none⟩))
    (hinv : (invoke (.fn (.func F) #[.pointer (some ⟨p, 0, none⟩), .pointer (some ⟨q, 0, none⟩)]) #[]).run Try.prog W = .ok (.enter F #[.pointer (some ⟨p, 0, none⟩), .pointer (some ⟨q, 0, none⟩)]) W)
    (hC : CallsD Try.prog F #[.pointer (some ⟨p, 0, none⟩), .pointer (some ⟨q, 0, none⟩)] .returning W fun x u w' => x = .returned (.tuple #[]) ∧ u = .returning ∧ w' = W)
    (hload : (loadVar ty ⟨r, 0, none⟩).run Try.prog W = .ok zv W) (hp : W.cell? ⟨p, 0, none⟩ = some (.int .i64 x)) (hq : W.cell? ⟨q, 0, none⟩ = some (.int .i64 y))
    (hR : R (.returned (.tuple #[zv, .int .i64 x, .int .i64 y])) W) :
    bodyPostD Try.prog fn R .ret { tmps := tmps, defers := [{ target := .fn (.func F) #[.pointer (some ⟨p, 0, none⟩), .pointer (some ⟨q, 0, none⟩)], args := #[] }] } W := by
  refine leaves_cons (f := F) (args := #[.pointer (some ⟨p, 0, none⟩), .pointer (some ⟨q, 0, none⟩)]) (by simp) hinv ?_
  refine hC.mono ?_
  rintro x' u w' ⟨rfl, rfl, rfl⟩
  exact ⟨_, results_c3 hres h6 h7 h8 hload (load_err hp) (load_int hq), hR⟩

set_option maxRecDepth 100000 in
set_option maxHeartbeats 4000000 in
theorem read_long (S : Option Addr) (n cap : Nat) (s : ByteArray) (w : World) (hs : 800 < s.size) :
    Calls Try.prog 31 #[.slice S n cap, .string s, .func (.func 32) #[] #[]] w fun e w' => e = .returned (.tuple #[.agg #[.string ⟨#[]⟩, .int .i64 0, .slice none 0 0], .int .i64 55, .int .i64 0]) ∧ Below w.heap.size w w' := by
  have hmf : ∀ (fn : Fn) (first cap : Array Value) (w : World), (Instr.makeFunc fn first cap).run Try.prog w = .ok (.func fn first cap) w := fun _ _ _ _ => rfl
  have hs' : (800 : Int) < s.size := by omega
  go_enter_defers Try.func31, Try.ntmps31
  go_wp2
  obtain ⟨V, hV, hV1, hV2, hVz, hVl, hVs⟩ := three_new w
  rw [hV]
  refine door_fault (at_ := 0) rfl rfl rfl rfl (by simp [go_sem]) (catch_fault _ _ 55 0 0 0 [] _ (by omega) hV1.1 hV2.1 hV1.2 hV2.2) (fun W' h => load_tm (h.trans hVz)) (by omega) (by omega) hVz.lt (fun W' hf => ⟨rfl, ?_⟩)
  exact hVl.trans (hf.below (fun k hk => by omega) hVl.size)

set_option maxRecDepth 100000 in
set_option maxHeartbeats 4000000 in
theorem read_term (S : Option Addr) (n cap : Nat) (l : List Sym) (s : ByteArray) (w : World) (hs : s.size ≤ 800) (hS : SigAt w S n l) :
    Calls Try.prog 31 #[.slice S n cap, .string s, .func (.func 32) #[] #[]] w fun e w' => FullEnd w (fullR s l) e w' := by
  have hmf : ∀ (fn : Fn) (first cap : Array Value) (w : World), (Instr.makeFunc fn first cap).run Try.prog w = .ok (.func fn first cap) w := fun _ _ _ _ => rfl
  have hs' : ¬ (800 : Int) < s.size := by omega
  obtain ⟨V, hV, hV1, hV2, hVz, hVl, hVs⟩ := three_new w
  have B1 := alloc_below0 V (.cells #[.slice S n cap, .string s, .int .i64 0, .slice none 0 0] 98)
  have LV := hid (hVl.trans (B1.mono hVl.size))
  have R0 : RdBox (V.alloc (.cells #[.slice S n cap, .string s, .int .i64 0, .slice none 0 0] 98)) V.heap.size (.slice S n cap) s 0 (.slice none 0 0) := World.alloc_heap_new V _
  rw [hVs] at R0
  have hc := whole_rd (w0 := w) (B := w.heap.size + 3) (cap := cap) (by omega) hs hS (w.heap.size + 4) (by omega) 0 (.slice none 0 0) [] (V.alloc (.cells #[.slice S n cap, .string s, .int .i64 0, .slice none 0 0] 98)) (Nat.zero_le _) (Nat.zero_le _) R0 LV.out (Lst.nil _ _) (by rw [World.size_alloc]; omega)
  have HC := hid hc
  have KE : Hid (∀ W, Below (w.heap.size + 3) (V.alloc (.cells #[.slice S n cap, .string s, .int .i64 0, .slice none 0 0] 98)) W → Kept3 w W) := hid fun W hW => Kept3.of hV1 hV2 hVz hVl hVs B1 hW
  have hVa : Hid ((V.alloc (.cells #[.slice S n cap, .string s, .int .i64 0, .slice none 0 0] 98)).heap.size = w.heap.size + 4) := by show _ = _; rw [World.size_alloc, hVs]
  have HS := hid hS
  have hsm : s.size ≤ maxLen := by unfold maxLen; omega
  clear hc R0 B1 hV1 hV2 hVz hVl hS
  obtain ⟨res, hres⟩ : ∃ res, fullR s l = res := ⟨_, rfl⟩
  rw [hres]
  unfold fullR termR at hres
  rw [if_neg (by omega)] at hres
  change (match (match rdC s l false 0 with | .error e => .error e | .ok (.nil, _) => .error (0, 0) | .ok (.node _ _ x m _, k) => match endR s k with | .error e => .error e | .ok _ => .ok (x, m) : Except (Int × Nat) Tn) with | .error e => .error e | .ok t => if chk l t.1 t.2 = 0 then .ok t else .error (chk l t.1 t.2, 0)) = res at hres
  have HRS := hid hres
  clear hres
  go_enter_defers Try.func31, Try.ntmps31
  go_wp2_with fail
  clear hV
  generalize V.alloc (.cells #[.slice S n cap, .string s, .int .i64 0, .slice none 0 0] 98) = V1 at LV HC KE hVa ⊢
  cases hr : rdC s l false 0 with
  | error q =>
    have hc := HC.out
    have hres := HRS.out
    rw [hr] at hc hres
    unfold WholeEnd at hc
    dsimp only at hc hres
    unfold faultP at hc
    refine hc.mono ?_
    rintro e w2 ⟨rfl, hb2⟩
    have K2 := hid (KE.out w2 hb2)
    have HR := hid hres
    clear hc hres hb2
    go_wp2
    refine door_fault rfl rfl rfl rfl (by simp [go_sem]) (catch_fault _ _ q.1 q.2 0 0 [] _ (by omega) K2.out.p.1 K2.out.q.1 K2.out.p.2 K2.out.q.2) (fun W' h => load_tm (h.trans K2.out.r)) (by omega) (by omega) K2.out.r.lt (fun W' hf => ?_)
    rw [← HR.out]
    exact ⟨rfl, K2.out.low.trans (hf.below (fun k hk => by omega) K2.out.low.size)⟩
  | ok qq =>
    obtain ⟨F, k'⟩ := qq
    have hc := HC.out
    have hres := HRS.out
    have hk' := rdC_to (Nat.zero_le _) hr
    rw [hr] at hc hres
    unfold WholeEnd at hc
    dsimp only at hc
    refine hc.mono ?_
    rintro e w2 ⟨⟨⟨x, m, ta, tc⟩, tv, rfl, rfl, hrb2, hls2⟩, hb2⟩
    dsimp only at hres ⊢
    have hsz2 := hb2.size
    rw [hVa.out] at hsz2
    have B2 := alloc_below0 w2 (.cells #[.string x.1, .int .i64 x.2, .slice ta (lenF m) tc] 28)
    have X2 : Hid (XBox (w2.alloc (.cells #[.string x.1, .int .i64 x.2, .slice ta (lenF m) tc] 28)) w2.heap.size x (.slice ta (lenF m) tc)) := World.alloc_heap_new w2 _
    have R2 := hid (hrb2.below B2)
    have L2 := hid (hls2.below B2)
    have K2 : Hid (∀ W, Below (w2.alloc (.cells #[.string x.1, .int .i64 x.2, .slice ta (lenF m) tc] 28)).heap.size (w2.alloc (.cells #[.string x.1, .int .i64 x.2, .slice ta (lenF m) tc] 28)) W → Kept3 w W) := hid fun W hW => KE.out W (hb2.trans ((B2.mono (by omega)).trans (hW.mono (by rw [World.size_alloc]; omega))))
    have hs2 : Hid ((w2.alloc (.cells #[.string x.1, .int .i64 x.2, .slice ta (lenF m) tc] 28)).heap.size = w2.heap.size + 1) := by show _ = _; rw [World.size_alloc]
    have HRS2 := hid hres
    clear hc hres hb2 hrb2 hls2 B2 HC KE HRS
    go_wp2_with fail
    generalize w2.alloc (.cells #[.string x.1, .int .i64 x.2, .slice ta (lenF m) tc] 28) = V2 at X2 R2 L2 K2 hs2 ⊢
    have he := end_rd (w.heap.size + 3) (.slice S n cap) tv s k' V2 R2.out hsm hk'.2
    cases hen : endR s k' with
    | error q =>
      have hres := HRS2.out
      rw [hen] at he hres
      dsimp only at he hres
      unfold faultP at he
      refine he.mono ?_
      rintro e w3 ⟨rfl, hb3⟩
      have K3 := hid (K2.out w3 hb3)
      have HR := hid hres
      clear he hres hb3
      go_wp2
      refine door_fault rfl rfl rfl rfl (by simp [go_sem]) (catch_fault _ _ q.1 q.2 0 0 [] _ (by omega) K3.out.p.1 K3.out.q.1 K3.out.p.2 K3.out.q.2) (fun W' h => load_tm (h.trans K3.out.r)) (by omega) (by omega) K3.out.r.lt (fun W' hf => ?_)
      rw [← HR.out]
      exact ⟨rfl, K3.out.low.trans (hf.below (fun k hk => by omega) K3.out.low.size)⟩
    | ok q =>
      have hres := HRS2.out
      rw [hen] at he hres
      dsimp only at he hres
      refine he.mono ?_
      rintro e w3 ⟨rfl, hb3⟩
      have K3 : Hid (∀ W, Below w3.heap.size w3 W → Kept3 w W) := hid fun W hW => K2.out W (hb3.trans (hW.mono hb3.size))
      have X3 := hid (X2.out.below hb3)
      have R3 := R2.out.below hb3
      have L3 := hid (L2.out.below hb3)
      have HR := hid hres
      have hs3 : w2.heap.size + 1 ≤ w3.heap.size := by have := hb3.size; rw [hs2.out] at this; exact this
      obtain ⟨ra, rc, hrv, _, _, hrow, _, _⟩ := row_of_owns L3.out.row
      subst hrv
      have hcc := check_rd (w.heap.size + 3) S n cap l s k' [⟨x, m, ta, tc⟩] ra rc w3 R3 (HS.out.below (K3.out w3 (Below.refl _ _)).low) hrow (by simp) (fun k hk => (L3.out.own k hk).tm)
      clear he hres hb3 hrow R3
      go_wp2_with fail
      by_cases hch : chk l x m = 0
      · have hf0 : firstE l [⟨x, m, ta, tc⟩] = 0 := by simp [firstE, hch]
        refine hcc.mono ?_
        rintro e w4 ⟨he4, hb4⟩
        rw [if_pos hf0] at he4
        subst he4
        have K4 := K3.out w4 hb4
        have X4 := X3.out.below hb4
        have O4 : OwnTm false (fun q => w.heap.size + 4 ≤ q) w4 x ta tc m := ((L3.out.own _ (List.mem_singleton.2 rfl)).mono (fun q _ hq => hq.1)).below hb4
        have p0 := K4.p.1; have p1 := K4.p.2; have q0 := K4.q.1; have q1 := K4.q.2
        have r0 := K4.r.c0; have r1 := K4.r.c1; have r2 := K4.r.c2
        have z0 := K4.r.f (k := 0); have z1 := K4.r.f (k := 1); have z2 := K4.r.f (k := 2)
        have x0 := X4.c0; have x1 := X4.c1; have x2 := X4.c2
        have hs4 := hb4.size
        have HK4 := hid K4; have HO4 := hid O4
        have n1 : ¬ w.heap.size = w2.heap.size := by omega
        clear hcc K4 X4 O4 hb4
        go_wp2
        obtain ⟨e1, e2, e3, e4⟩ := five_sets HK4.out x (.slice ta (lenF m) tc)
        refine door_done rfl rfl rfl rfl (by simp [go_sem]) (catch_none _ _ _) (load_tm e1) e2 e3 ?_
        have hres := HR.out
        rw [if_pos hch] at hres
        rw [← hres]
        exact ⟨⟨ta, tc, rfl, (HO4.out.keep (fun q hq _ => e4 q (by omega))).mono (fun q _ hq => by omega)⟩, ((((sets_below HK4.out.low (Nat.le_refl _) _ _ _).setCell (p := ⟨w.heap.size + 1, 0, none⟩) (Nat.le_succ _) _)).setCell (p := ⟨w.heap.size + 1 + 1, 0, none⟩) (Nat.le_add_right _ 2) _)⟩
      · have hf0 : firstE l [⟨x, m, ta, tc⟩] = chk l x m := by simp [firstE, hch]
        refine hcc.mono ?_
        rintro e w4 ⟨he4, hb4⟩
        rw [hf0, if_neg hch] at he4
        unfold faultP at he4
        subst he4
        have K4 := hid (K3.out w4 hb4)
        clear hcc hb4
        go_wp2
        refine door_fault rfl rfl rfl rfl (by simp [go_sem]) (catch_fault _ _ (chk l x m) 0 0 0 [] _ (by omega) K4.out.p.1 K4.out.q.1 K4.out.p.2 K4.out.q.2) (fun W' h => load_tm (h.trans K4.out.r)) (by omega) (by omega) K4.out.r.lt (fun W' hf => ?_)
        have hres := HR.out
        rw [if_neg hch] at hres
        rw [← hres]
        exact ⟨rfl, K4.out.low.trans (hf.below (fun k hk => by omega) K4.out.low.size)⟩

theorem read_all (S : Option Addr) (n cap : Nat) (l : List Sym) (s : ByteArray) (w : World) (hS : SigAt w S n l) :
    Calls Try.prog 31 #[.slice S n cap, .string s, .func (.func 32) #[] #[]] w fun e w' => FullEnd w (fullR s l) e w' := by
  by_cases hs : s.size ≤ 800
  · exact read_term S n cap l s w hs hS
  · refine (read_long S n cap s w (by omega)).mono ?_
    rintro e w' ⟨rfl, hb⟩
    have : fullR s l = .error (55, 0) := by unfold fullR termR; rw [if_pos (by omega)]
    rw [this]
    exact ⟨rfl, hb⟩
theorem ret_tm3 {fn : Func} {R : Ending → World → Prop} {a : Act} {w : World} {B : Nat} {x : ByteArray × Int} {v : Value} (h : fn.results = #[.cell 4 28, .tmp 5, .tmp 6]) (h4 : a.tmps.getD 4 undef = .pointer (some ⟨B, 0, none⟩))
    (hx : XBox w B x v) (hd : a.defers = []) (hR : R (.returned (.tuple #[.agg #[.string x.1, .int .i64 x.2, v], a.tmps.getD 5 undef, a.tmps.getD 6 undef])) w) : bodyPost Try.prog fn R .ret a w := by
  refine bodyPost_ret ?_ hd hR
  rw [results_cell2 h, h4]
  rw [show (asAddr (.pointer (some ⟨B, 0, none⟩))).run Try.prog w = .ok ⟨B, 0, none⟩ w from rfl]
  simp only [Result.andThen_ok, load_tm hx]
set_option maxRecDepth 100000 in
set_option maxHeartbeats 4000000 in
/-- Term of a text. -/
theorem term_any (S : Option Addr) (n cap : Nat) (l : List Sym) (s : ByteArray) (w : World) (hS : SigAt w S n l) :
    Calls Try.prog 10 #[.slice S n cap, .string s] w fun e w' => FullEnd w (fullR s l) e w' := by
  have B0 := alloc_below0 w (.cells #[.string ⟨#[]⟩, .int .i64 0, .slice none 0 0] 28)
  have X0 : XBox (w.alloc (.cells #[.string ⟨#[]⟩, .int .i64 0, .slice none 0 0] 28)) w.heap.size (⟨#[]⟩, 0) (.slice none 0 0) := World.alloc_heap_new w _
  have hc := read_all S n cap l s _ (hS.below B0)
  have HX := hid X0; have HB := hid B0; have HC := hid hc
  clear hc B0 X0 hS
  obtain ⟨res, hres⟩ : ∃ res, fullR s l = res := ⟨_, rfl⟩
  rw [hres] at HC ⊢
  clear hres
  go_enter Try.func10, Try.ntmps10
  go_wp2_with fail
  generalize w.alloc (.cells #[.string ⟨#[]⟩, .int .i64 0, .slice none 0 0] 28) = V0 at HX HB HC ⊢
  have hw0 := HX.out.lt
  have hc := HC.out
  unfold FullEnd at hc
  cases res with
  | error q =>
    dsimp only at hc
    refine hc.mono ?_
    rintro e w1 ⟨rfl, hb⟩
    have X1 := HX.out.below hb
    have r0 := X1.c0; have r1 := X1.c1; have r2 := X1.c2
    have z0 := X1.f (k := 0); have z1 := X1.f (k := 1); have z2 := X1.f (k := 2)
    have H1 := hid X1
    have L1 := hid (HB.out.trans (hb.mono HB.out.size))
    clear hc hb X1
    go_wp2
    refine ret_tm3 rfl rfl (H1.out.all (x := ((⟨#[]⟩ : ByteArray), (0 : Int))) _) rfl ?_
    exact ⟨rfl, sets_below L1.out (Nat.le_refl _) _ _ _⟩
  | ok tt =>
    obtain ⟨x, m⟩ := tt
    dsimp only at hc
    refine hc.mono ?_
    rintro e w1 ⟨⟨ta, tc, rfl, ho⟩, hb⟩
    have X1 := HX.out.below hb
    have r0 := X1.c0; have r1 := X1.c1; have r2 := X1.c2
    have z0 := X1.f (k := 0); have z1 := X1.f (k := 1); have z2 := X1.f (k := 2)
    have H1 := hid X1
    have HO := hid ho
    have L1 := hid (HB.out.trans (hb.mono HB.out.size))
    clear hc hb X1 ho
    go_wp2
    refine ret_tm3 rfl rfl (H1.out.all (x := x) _) rfl ?_
    exact ⟨⟨ta, tc, rfl, (HO.out.keep (fun q hq _ => sets_far (by omega) _ _ _)).mono (fun q _ hq => by omega)⟩, sets_below L1.out (Nat.le_refl _) _ _ _⟩
end Go.Proofs.Ytkcbhbkldcebiaa
