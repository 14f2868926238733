/- What the reader's look answers: the next word and the place behind it, or a panic with the word's error and its place. -/
import Derived.Test.YtkcbhbkldcebiaaWNext
import Derived.Test.YtkcbhbkldcebiaaTLent
import Derived.Deep.RegionHeld3
import Derived.Deep.DeepCutAuto
import Derived.WalkLawsBesides
namespace Go.Proofs.Ytkcbhbkldcebiaa
open Go.RowKit Go.Deep

theorem hid {p : Prop} (h : p) : Hid p := h
/-- The reader's box: signature, text, place, terms that are whole. -/
def RdBox (W : World) (B : Nat) (sg : Value) (s : ByteArray) (k : Nat) (tv : Value) : Prop := W.heap[B]? = some (.cells #[sg, .string s, .int .i64 k, tv] 98 (0, 0))
theorem RdBox.c0 {W : World} {B : Nat} {sg tv : Value} {s : ByteArray} {k : Nat} (h : RdBox W B sg s k tv) : W.cell? ⟨B, 0, none⟩ = some sg := by simp [World.cell?, show W.heap[B]? = _ from h]
theorem RdBox.c1 {W : World} {B : Nat} {sg tv : Value} {s : ByteArray} {k : Nat} (h : RdBox W B sg s k tv) : W.cell? ⟨B, 1, none⟩ = some (.string s) := by simp [World.cell?, show W.heap[B]? = _ from h]
theorem RdBox.c2 {W : World} {B : Nat} {sg tv : Value} {s : ByteArray} {k : Nat} (h : RdBox W B sg s k tv) : W.cell? ⟨B, 2, none⟩ = some (.int .i64 k) := by simp [World.cell?, show W.heap[B]? = _ from h]
theorem RdBox.c3 {W : World} {B : Nat} {sg tv : Value} {s : ByteArray} {k : Nat} (h : RdBox W B sg s k tv) : W.cell? ⟨B, 3, none⟩ = some tv := by simp [World.cell?, show W.heap[B]? = _ from h]
theorem RdBox.lt {W : World} {B : Nat} {sg tv : Value} {s : ByteArray} {k : Nat} (h : RdBox W B sg s k tv) : B < W.heap.size := (Array.getElem?_eq_some_iff.1 h).1
theorem RdBox.f {W : World} {B i : Nat} {sg tv : Value} {s : ByteArray} {k : Nat} (h : RdBox W B sg s k tv) : W.frozen? ⟨B, i, none⟩ = false := by simp [World.frozen?, show W.heap[B]? = _ from h]
theorem RdBox.below {W W' : World} {B : Nat} {sg tv : Value} {s : ByteArray} {k : Nat} (h : RdBox W B sg s k tv) (hb : Below W.heap.size W W') : RdBox W' B sg s k tv := (hb.block B h.lt).trans h

theorem alloc_below0 (W : World) (o : Obj) : Below W.heap.size W (W.alloc o) := (Below.refl _ _).alloc (Nat.le_refl _) _
theorem bl_over {w W : World} (h : Below w.heap.size w W) (o : Obj) : Below w.heap.size w (W.alloc o) := h.alloc h.size o
theorem WdBox.k0 {W : World} {B : Nat} {x : Wd} (h : WdBox W B x) : W.cell? ⟨B, 0, none⟩ = some (.int .i64 x.kind) := by simp [World.cell?, show W.heap[B]? = _ from h]
theorem WdBox.k1 {W : World} {B : Nat} {x : Wd} (h : WdBox W B x) : W.cell? ⟨B, 1, none⟩ = some (.string x.text) := by simp [World.cell?, show W.heap[B]? = _ from h]
theorem WdBox.k2 {W : World} {B : Nat} {x : Wd} (h : WdBox W B x) : W.cell? ⟨B, 2, none⟩ = some (.int .i64 x.place) := by simp [World.cell?, show W.heap[B]? = _ from h]
theorem WdBox.fz {W : World} {B i : Nat} {x : Wd} (h : WdBox W B x) : W.frozen? ⟨B, i, none⟩ = false := by simp [World.frozen?, show W.heap[B]? = _ from h]
theorem WdBox.ltB {W : World} {B : Nat} {x : Wd} (h : WdBox W B x) : B < W.heap.size := (Array.getElem?_eq_some_iff.1 h).1
theorem WdBox.later {W W' : World} {B : Nat} {x : Wd} (h : WdBox W B x) (hb : Below W.heap.size W W') : WdBox W' B x := (hb.block B h.ltB).trans h
theorem WdBox.all {W : World} {B : Nat} {y : Wd} (h : WdBox W B y) (x : Wd) : WdBox (((W.setCell ⟨B, 0, none⟩ (.int .i64 x.kind)).setCell ⟨B, 1, none⟩ (.string x.text)).setCell ⟨B, 2, none⟩ (.int .i64 x.place)) B x := by
  have := block_set (k := 2) (block_set (k := 1) (block_set (k := 0) h (.int .i64 x.kind)) (.string x.text)) (.int .i64 x.place)
  exact this

theorem results_cell1 {fn : Func} {p u : Tmp} {ty : TypeId} (h : fn.results = #[.cell p ty, .tmp u]) (tmps : Array Value) (P : Program) (w : World) :
    (results fn tmps).run P w =
      ((asAddr (tmps.getD p undef)).run P w).andThen fun a w₁ => ((loadVar ty a).run P w₁).andThen fun x w₂ => .ok (.tuple #[x, tmps.getD u undef]) w₂ := by
  simp only [results, h]
  simp [Sem.run_bind, Result.andThen]
theorem ret_word1 {fn : Func} {R : Ending → World → Prop} {a : Act} {w : World} {B : Nat} {x : Wd} (h : fn.results = #[.cell 2 71, .tmp 3]) (h2 : a.tmps.getD 2 undef = .pointer (some ⟨B, 0, none⟩))
    (hx : WdBox w B x) (hd : a.defers = []) (hR : R (.returned (.tuple #[x.val, a.tmps.getD 3 undef])) w) : bodyPost Try.prog fn R .ret a w := by
  refine bodyPost_ret ?_ hd hR
  rw [results_cell1 h, h2]
  rw [show (asAddr (.pointer (some ⟨B, 0, none⟩))).run Try.prog w = .ok ⟨B, 0, none⟩ w from rfl]
  simp only [Result.andThen_ok, load_word hx]

/-- What a reading gives up with. -/
def faultP (e : Int) (p : Nat) : Ending := .panicked [{ v := .iface 96 (.agg #[.int .i64 e, .int .i64 p]), recovered := false }]

set_option maxRecDepth 100000 in
set_option maxHeartbeats 2000000 in
theorem look_any (B : Nat) (sg tv : Value) (s : ByteArray) (k : Nat) (w : World) (hB : RdBox w B sg s k tv) (hs : s.size ≤ maxLen) (hk : k ≤ s.size) :
    Calls Try.prog 62 #[.pointer (some ⟨B, 0, none⟩)] w fun e w' => (if (nx s k).err = 0 then e = .returned (.tuple #[(nx s k).word.val, .int .i64 (nx s k).to]) else e = faultP (nx s k).err (nx s k).to) ∧ Below w.heap.size w w' := by
  have HB := hid hB
  have HN : Hid (∀ W, Calls Try.prog 76 #[.string s, .int .i64 k] W fun e w' => e = .returned (Nx.val (nx s k)) ∧ Below W.heap.size W w') := hid fun W => next_any s k W hs hk
  clear hB
  obtain ⟨r, hr⟩ : ∃ r, nx s k = r := ⟨_, rfl⟩
  rw [hr] at HN ⊢
  obtain ⟨⟨wk, wt, wp⟩, te, er⟩ := r
  unfold Nx.val Wd.val at HN
  unfold Wd.val
  dsimp only at HN ⊢
  clear hr
  go_enter Try.func62, Try.ntmps62
  go_upto_region 1 with fail
  have B0 := alloc_below0 w (.cells #[.int .i64 0, .string ⟨#[]⟩, .int .i64 0] 71)
  have HB0 := hid (HB.out.below B0)
  have HL := hid B0
  have R0 : Hid (WdBox (w.alloc (.cells #[.int .i64 0, .string ⟨#[]⟩, .int .i64 0] 71)) w.heap.size noWd) := World.alloc_heap_new w _
  clear HB B0
  generalize w.alloc (.cells #[.int .i64 0, .string ⟨#[]⟩, .int .i64 0] 71) = W0 at HB0 HL R0 ⊢
  have Q1 := hid HB0.out.c1; have Q2 := hid HB0.out.c2
  go_cut [4, 5, 6] (fun p t e wc => ∃ g, p = .pointer (some ⟨g, 0, none⟩) ∧ t = .int .i64 te ∧ e = .int .i64 er ∧ WdBox wc g ⟨wk, wt, wp⟩ ∧ Below W0.heap.size W0 wc)
  case first =>
    go_region_held3 (fun w' => w'.cell? ⟨B, 1, none⟩ = some (.string s) ∧ w'.cell? ⟨B, 2, none⟩ = some (.int .i64 k)) ((first
      | (refine ⟨?_, ?_⟩ <;> (with_reducible refine below_cell (w := W0) ?_ _ _ ?_; (solve | (repeat' first | (with_reducible exact Below.refl _ W0) | (with_reducible exact HB1.out) | (with_reducible refine Below.drew ?_) | (with_reducible refine bl_over ?_ _) | (with_reducible refine sets_below ?_ (Nat.le_refl _) _ _ _))); first | exact Q1.out | exact Q2.out))
      | fail)) ((first
      | (go_at_call 76; refine Calls.mono (HN.out _) ?_; rintro e w1 ⟨rfl, hb1⟩; first
          | (have HB1 : Hid (Below W0.heap.size W0 w1) := ((Below.refl _ W0).drew).trans hb1; clear hb1)
          | (have HB1 : Hid (Below W0.heap.size W0 w1) := ((alloc_below0 W0 (.cells #[.int .i64 0, .string ⟨#[]⟩, .int .i64 0] 71)).drew).trans (hb1.mono (by show _ ≤ (W0.alloc _).heap.size; rw [World.size_alloc]; omega)); have HY1 : Hid (WdBox w1 W0.heap.size noWd) := WdBox.later (W := World.drew (World.alloc W0 (.cells #[.int .i64 0, .string ⟨#[]⟩, .int .i64 0] 71))) (World.alloc_heap_new W0 _) hb1; have y0 := HY1.out.k0; have y1 := HY1.out.k1; have y2 := HY1.out.k2; have z0 := HY1.out.fz (i := 0); have z1 := HY1.out.fz (i := 1); have z2 := HY1.out.fz (i := 2); clear hb1))
      | fail))
    all_goals (go_wp2_with fail; go_meet)
    all_goals first
      | exact ⟨w1.heap.size, rfl, rfl, rfl, World.alloc_heap_new w1 _, HB1.out.alloc HB1.out.size _⟩
      | exact ⟨W0.heap.size, rfl, rfl, rfl, HY1.out.all ⟨wk, wt, wp⟩, sets_below HB1.out (Nat.le_refl _) _ _ _⟩
  case rest =>
    obtain ⟨g, rfl, rfl, rfl, hbx, hbc⟩ := hcut
    have y0 := hbx.k0; have y1 := hbx.k1; have y2 := hbx.k2
    have LOW := hid (HL.out.trans (hbc.mono HL.out.size))
    have R1 : Hid (WdBox wc w.heap.size noWd) := WdBox.later R0.out hbc
    have u0 := R1.out.k0; have u1 := R1.out.k1; have u2 := R1.out.k2
    have z0 := R1.out.fz (i := 0); have z1 := R1.out.fz (i := 1); have z2 := R1.out.fz (i := 2)
    by_cases he : er = 0
    · subst he
      go_wp2
      refine ret_word1 rfl rfl (R1.out.all ⟨wk, wt, wp⟩) rfl ?_
      exact ⟨rfl, sets_below LOW.out (Nat.le_refl _) _ _ _⟩
    · have hne : (er != 0) = true := by simpa using he
      go_wp2
      exact ⟨rfl, ⟨rfl, LOW.out⟩⟩
end Go.Proofs.Ytkcbhbkldcebiaa
