/- What the reader's next, want, pass and end answer: a word read, or a panic with what is wrong and where. -/
import Derived.Test.YtkcbhbkldcebiaaXLook
import Derived.Test.YtkcbhbkldcebiaaTSpoil
namespace Go.Proofs.Ytkcbhbkldcebiaa
open Go.RowKit Go.Deep

/-- The next word, or the first that is wrong. -/
def lookP (s : ByteArray) (k : Nat) : Except (Int × Nat) Nx := if (nx s k).err = 0 then .ok (nx s k) else .error ((nx s k).err, (nx s k).to)
def nextP (s : ByteArray) (k : Nat) : Except (Int × Nat) Nx := match lookP s k with
  | .error e => .error e
  | .ok r => if r.word.kind = 0 then .error (51, s.size) else .ok r
def wantP (s : ByteArray) (k : Nat) (kd : Int) : Except (Int × Nat) Nx := match nextP s k with
  | .error e => .error e
  | .ok r => if r.word.kind = kd then .ok r else .error (52, r.word.place)
def endR (s : ByteArray) (k : Nat) : Except (Int × Nat) Nx := match lookP s k with
  | .error e => .error e
  | .ok r => if r.word.kind = 0 then .ok r else .error (54, r.word.place)

/-- Only the reader's own block has turned. -/
abbrev FrB (B : Nat) (w w' : World) : Prop := Fr (fun q => q = B) w w'
theorem RdBox.set {W : World} {B : Nat} {sg tv : Value} {s : ByteArray} {k : Nat} (h : RdBox W B sg s k tv) (m : Nat) : RdBox (W.setCell ⟨B, 2, none⟩ (.int .i64 m)) B sg s m tv := by
  have := block_set (k := 2) h (.int .i64 (m : Int))
  exact this
theorem frB_set {B i : Nat} {w W : World} (h : FrB B w W) (v : Value) : FrB B w (W.setCell ⟨B, i, none⟩ v) :=
  h.trans ⟨(Below.refl 0 W).setCell (p := ⟨B, i, none⟩) (Nat.zero_le _) _, fun q _ hn => Below.heap_setCell _ _ _ q hn⟩
theorem frB_sets {B g : Nat} {w W : World} (h : FrB B w W) (hg : w.heap.size ≤ g) (a b c : Value) : FrB B w (((W.setCell ⟨g, 0, none⟩ a).setCell ⟨g, 1, none⟩ b).setCell ⟨g, 2, none⟩ c) :=
  ⟨sets_below h.low (Nat.zero_le _) _ _ _, fun q hq hn => (sets_far (by omega) _ _ _).trans (h.same q hq hn)⟩
theorem results_one {fn : Func} {p : Tmp} {ty : TypeId} (h : fn.results = #[.cell p ty]) (tmps : Array Value) (P : Program) (w : World) :
    (results fn tmps).run P w = ((asAddr (tmps.getD p undef)).run P w).andThen fun a w₁ => (loadVar ty a).run P w₁ := by
  simp only [results, h]
  simp [Sem.run_bind, Result.andThen]
theorem ret_wd {fn : Func} {R : Ending → World → Prop} {a : Act} {w : World} {B : Nat} {x : Wd} {p : Tmp} (h : fn.results = #[.cell p 71]) (h2 : a.tmps.getD p undef = .pointer (some ⟨B, 0, none⟩))
    (hx : WdBox w B x) (hd : a.defers = []) (hR : R (.returned x.val) w) : bodyPost Try.prog fn R .ret a w := by
  refine bodyPost_ret ?_ hd hR
  rw [results_one h, h2]
  rw [show (asAddr (.pointer (some ⟨B, 0, none⟩))).run Try.prog w = .ok ⟨B, 0, none⟩ w from rfl]
  simp only [Result.andThen_ok, load_word hx]

set_option maxRecDepth 100000 in
set_option maxHeartbeats 2000000 in
theorem next_rd (B : Nat) (sg tv : Value) (s : ByteArray) (k : Nat) (w : World) (hB : RdBox w B sg s k tv) (hs : s.size ≤ maxLen) (hk : k ≤ s.size) :
    Calls Try.prog 73 #[.pointer (some ⟨B, 0, none⟩)] w fun e w' => (match nextP s k with | .error p => e = faultP p.1 p.2 | .ok r => e = .returned r.word.val ∧ RdBox w' B sg s r.to tv) ∧ FrB B w w' := by
  have HB := hid hB
  have HN : Hid (∀ W, RdBox W B sg s k tv → Calls Try.prog 62 #[.pointer (some ⟨B, 0, none⟩)] W fun e w' => (if (nx s k).err = 0 then e = .returned (.tuple #[(nx s k).word.val, .int .i64 (nx s k).to]) else e = faultP (nx s k).err (nx s k).to) ∧ Below W.heap.size W w') := hid fun W hW => look_any B sg tv s k W hW hs hk
  clear hB
  unfold nextP lookP
  obtain ⟨r, hr⟩ : ∃ r, nx s k = r := ⟨_, rfl⟩
  rw [hr] at HN ⊢
  obtain ⟨⟨wk, wt, wp⟩, te, er⟩ := r
  unfold Wd.val at HN
  unfold Wd.val
  dsimp only at HN ⊢
  clear hr
  have B0 := alloc_below0 w (.cells #[.int .i64 0, .string ⟨#[]⟩, .int .i64 0] 71)
  have HB0 := hid (HB.out.below B0)
  have HL := hid B0
  have R0 : Hid (WdBox (w.alloc (.cells #[.int .i64 0, .string ⟨#[]⟩, .int .i64 0] 71)) w.heap.size noWd) := World.alloc_heap_new w _
  have hBlt := HB.out.lt
  clear B0
  by_cases he : er = 0
  · subst he
    rw [if_pos rfl]
    dsimp only
    have HN1 : Hid (∀ W, RdBox W B sg s k tv → Calls Try.prog 62 #[.pointer (some ⟨B, 0, none⟩)] W fun e w' => e = .returned (.tuple #[.agg #[.int .i64 wk, .string wt, .int .i64 wp], .int .i64 te]) ∧ Below W.heap.size W w') := hid fun W hW => by
      have := HN.out W hW
      simpa using this
    clear HN
    go_enter Try.func73, Try.ntmps73
    go_wp2_with fail
    refine (HN1.out _ HB0.out).mono ?_
    rintro e w1 ⟨rfl, hb1⟩
    have B1 := alloc_below0 w1 (.cells #[.int .i64 wk, .string wt, .int .i64 wp] 71)
    have hw1 := hb1.size
    rw [World.size_alloc] at hw1
    have RB := hid ((HB0.out.below hb1).below B1)
    have R1 : Hid (WdBox (w1.alloc (.cells #[.int .i64 wk, .string wt, .int .i64 wp] 71)) w.heap.size noWd) := hid ((R0.out.later hb1).later B1)
    have W1 : Hid (WdBox (w1.alloc (.cells #[.int .i64 wk, .string wt, .int .i64 wp] 71)) w1.heap.size ⟨wk, wt, wp⟩) := World.alloc_heap_new w1 _
    have HF : Hid (Below w.heap.size w (w1.alloc (.cells #[.int .i64 wk, .string wt, .int .i64 wp] 71))) := hid ((HL.out.trans (hb1.mono HL.out.size)).trans (B1.mono (HL.out.trans (hb1.mono HL.out.size)).size))
    clear hb1 B1 HB0 HN1 HL R0
    have y0 := W1.out.k0; have y1 := W1.out.k1; have y2 := W1.out.k2
    have c1 := RB.out.c1; have c2 := RB.out.c2; have f2 := RB.out.f (i := 2)
    by_cases hz : wk = 0
    · subst hz
      go_wp2
      exact ⟨rfl, ⟨rfl, Fr.of_below HF.out⟩⟩
    · have hz1 : (wk == 0) = false := by simpa using hz
      have r0 := R1.out.k0; have r1 := R1.out.k1; have r2 := R1.out.k2
      have z0 := R1.out.fz (i := 0); have z1 := R1.out.fz (i := 1); have z2 := R1.out.fz (i := 2)
      have ne1 : B ≠ w1.heap.size := by omega
      have ne2 : B ≠ w.heap.size := by omega
      go_wp2_with fail
      refine ret_wd rfl rfl (x := ⟨wk, wt, wp⟩) (WdBox.all (y := noWd) ((Below.heap_setCell _ _ _ _ (Ne.symm ne2)).trans R1.out) ⟨wk, wt, wp⟩) rfl ?_
      exact ⟨⟨rfl, (sets_far ne2 _ _ _).trans (RB.out.set te)⟩, frB_sets (frB_set (Fr.of_below HF.out) _) (Nat.le_refl _) _ _ _⟩
  · rw [if_neg he]
    dsimp only
    have HN1 : Hid (∀ W, RdBox W B sg s k tv → Calls Try.prog 62 #[.pointer (some ⟨B, 0, none⟩)] W fun e w' => e = faultP er te ∧ Below W.heap.size W w') := hid fun W hW => by
      have := HN.out W hW
      simpa [he] using this
    clear HN
    unfold faultP at HN1
    go_enter Try.func73, Try.ntmps73
    go_wp2_with fail
    refine (HN1.out _ HB0.out).mono ?_
    rintro e w1 ⟨rfl, hb1⟩
    go_wp2
    exact ⟨rfl, ⟨rfl, Fr.of_below (HL.out.trans (hb1.mono HL.out.size))⟩⟩

set_option maxRecDepth 100000 in
set_option maxHeartbeats 2000000 in
theorem want_rd (B : Nat) (sg tv : Value) (s : ByteArray) (k : Nat) (kd : Int) (w : World) (hB : RdBox w B sg s k tv) (hs : s.size ≤ maxLen) (hk : k ≤ s.size) :
    Calls Try.prog 60 #[.pointer (some ⟨B, 0, none⟩), .int .i64 kd] w fun e w' => (match wantP s k kd with | .error p => e = faultP p.1 p.2 | .ok r => e = .returned r.word.val ∧ RdBox w' B sg s r.to tv) ∧ FrB B w w' := by
  have HB := hid hB
  have HN : Hid (∀ W, RdBox W B sg s k tv → Calls Try.prog 73 #[.pointer (some ⟨B, 0, none⟩)] W fun e w' => (match nextP s k with | .error p => e = faultP p.1 p.2 | .ok r => e = .returned r.word.val ∧ RdBox w' B sg s r.to tv) ∧ FrB B W w') := hid fun W hW => next_rd B sg tv s k W hW hs hk
  clear hB
  unfold wantP
  obtain ⟨r, hr⟩ : ∃ r, nextP s k = r := ⟨_, rfl⟩
  rw [hr] at HN ⊢
  clear hr
  have B0 := alloc_below0 w (.cells #[.int .i64 0, .string ⟨#[]⟩, .int .i64 0] 71)
  have HB0 := hid (HB.out.below B0)
  have HL := hid B0
  have R0 : Hid (WdBox (w.alloc (.cells #[.int .i64 0, .string ⟨#[]⟩, .int .i64 0] 71)) w.heap.size noWd) := World.alloc_heap_new w _
  have hBlt := HB.out.lt
  clear B0
  cases r with
  | error p =>
    dsimp only at HN ⊢
    unfold faultP at HN ⊢
    go_enter Try.func60, Try.ntmps60
    go_wp2_with fail
    refine (HN.out _ HB0.out).mono ?_
    rintro e w1 ⟨rfl, hb1⟩
    go_wp2
    exact ⟨rfl, ⟨rfl, (Fr.of_below HL.out).trans hb1⟩⟩
  | ok r =>
    obtain ⟨⟨wk, wt, wp⟩, te, er⟩ := r
    unfold Wd.val at HN
    unfold Wd.val
    dsimp only at HN ⊢
    go_enter Try.func60, Try.ntmps60
    go_wp2_with fail
    refine (HN.out _ HB0.out).mono ?_
    rintro e w1 ⟨⟨rfl, hrb⟩, hf1⟩
    have hw1 := hf1.low.size
    rw [World.size_alloc] at hw1
    have B1 := alloc_below0 w1 (.cells #[.int .i64 wk, .string wt, .int .i64 wp] 71)
    have RB := hid (hrb.below B1)
    have R1 : Hid (WdBox (w1.alloc (.cells #[.int .i64 wk, .string wt, .int .i64 wp] 71)) w.heap.size noWd) := hid (WdBox.later ((hf1.same _ R0.out.ltB (by omega)).trans R0.out) B1)
    have W1 : Hid (WdBox (w1.alloc (.cells #[.int .i64 wk, .string wt, .int .i64 wp] 71)) w1.heap.size ⟨wk, wt, wp⟩) := World.alloc_heap_new w1 _
    have HF : Hid (FrB B w (w1.alloc (.cells #[.int .i64 wk, .string wt, .int .i64 wp] 71))) := hid (((Fr.of_below HL.out).trans hf1).trans (Fr.of_below B1))
    clear hrb hf1 B1 HB0 HN HL R0
    have y0 := W1.out.k0; have y1 := W1.out.k1; have y2 := W1.out.k2
    have r0 := R1.out.k0; have r1 := R1.out.k1; have r2 := R1.out.k2
    have z0 := R1.out.fz (i := 0); have z1 := R1.out.fz (i := 1); have z2 := R1.out.fz (i := 2)
    have ne2 : B ≠ w.heap.size := by omega
    by_cases hz : wk = kd
    · have hz1 : (wk != kd) = false := by simpa using hz
      subst hz
      go_wp2_with fail
      refine ret_wd rfl rfl (x := ⟨wk, wt, wp⟩) (WdBox.all (y := noWd) R1.out ⟨wk, wt, wp⟩) rfl ?_
      exact ⟨⟨rfl, (sets_far ne2 _ _ _).trans RB.out⟩, frB_sets HF.out (Nat.le_refl _) _ _ _⟩
    · have hz1 : (wk != kd) = true := by simpa using hz
      go_wp2
      exact ⟨rfl, ⟨rfl, HF.out⟩⟩

def passP (s : ByteArray) (k : Nat) (kd : Int) : Except (Int × Nat) (Bool × Nat) := match lookP s k with
  | .error e => .error e
  | .ok r => if r.word.kind = kd then .ok (true, r.to) else .ok (false, k)

set_option maxRecDepth 100000 in
set_option maxHeartbeats 2000000 in
theorem pass_rd (B : Nat) (sg tv : Value) (s : ByteArray) (k : Nat) (kd : Int) (w : World) (hB : RdBox w B sg s k tv) (hs : s.size ≤ maxLen) (hk : k ≤ s.size) :
    Calls Try.prog 64 #[.pointer (some ⟨B, 0, none⟩), .int .i64 kd] w fun e w' => (match passP s k kd with | .error p => e = faultP p.1 p.2 | .ok r => e = .returned (.bool r.1) ∧ RdBox w' B sg s r.2 tv) ∧ FrB B w w' := by
  have HB := hid hB
  have HN : Hid (∀ W, RdBox W B sg s k tv → Calls Try.prog 62 #[.pointer (some ⟨B, 0, none⟩)] W fun e w' => (match lookP s k with | .error p => e = faultP p.1 p.2 | .ok r => e = .returned (.tuple #[r.word.val, .int .i64 r.to])) ∧ Below W.heap.size W w') := hid fun W hW => by
    refine (look_any B sg tv s k W hW hs hk).mono ?_
    rintro e w' ⟨he, hb⟩
    unfold lookP
    split at he
    · rename_i h; rw [if_pos h]; exact ⟨he, hb⟩
    · rename_i h; rw [if_neg h]; exact ⟨he, hb⟩
  clear hB
  unfold passP
  obtain ⟨r, hr⟩ : ∃ r, lookP s k = r := ⟨_, rfl⟩
  rw [hr] at HN ⊢
  clear hr
  have hBlt := HB.out.lt
  cases r with
  | error p =>
    dsimp only at HN ⊢
    unfold faultP at HN ⊢
    go_enter Try.func64, Try.ntmps64
    go_wp2_with fail
    refine (HN.out _ HB.out).mono ?_
    rintro e w1 ⟨rfl, hb1⟩
    go_wp2
    exact ⟨rfl, ⟨rfl, Fr.of_below hb1⟩⟩
  | ok r =>
    obtain ⟨⟨wk, wt, wp⟩, te, er⟩ := r
    unfold Wd.val at HN
    dsimp only at HN ⊢
    go_enter Try.func64, Try.ntmps64
    go_wp2_with fail
    refine (HN.out _ HB.out).mono ?_
    rintro e w1 ⟨rfl, hb1⟩
    have B1 := alloc_below0 w1 (.cells #[.int .i64 wk, .string wt, .int .i64 wp] 71)
    have RB := hid ((HB.out.below hb1).below B1)
    have W1 : Hid (WdBox (w1.alloc (.cells #[.int .i64 wk, .string wt, .int .i64 wp] 71)) w1.heap.size ⟨wk, wt, wp⟩) := World.alloc_heap_new w1 _
    have HF : Hid (FrB B w (w1.alloc (.cells #[.int .i64 wk, .string wt, .int .i64 wp] 71))) := hid ((Fr.of_below hb1).trans (Fr.of_below B1))
    clear hb1 B1 HB HN
    have y0 := W1.out.k0; have y1 := W1.out.k1; have y2 := W1.out.k2
    have c2 := RB.out.c2; have f2 := RB.out.f (i := 2)
    by_cases hz : wk = kd
    · have hz1 : (wk != kd) = false := by simpa using hz
      subst hz
      go_wp2
      go_ret
      exact ⟨⟨rfl, RB.out.set te⟩, frB_set HF.out _⟩
    · have hz1 : (wk != kd) = true := by simpa using hz
      go_wp2
      go_ret
      exact ⟨⟨rfl, RB.out⟩, HF.out⟩

set_option maxRecDepth 100000 in
set_option maxHeartbeats 2000000 in
theorem end_rd (B : Nat) (sg tv : Value) (s : ByteArray) (k : Nat) (w : World) (hB : RdBox w B sg s k tv) (hs : s.size ≤ maxLen) (hk : k ≤ s.size) :
    Calls Try.prog 55 #[.pointer (some ⟨B, 0, none⟩)] w fun e w' => (match endR s k with | .error p => e = faultP p.1 p.2 | .ok _ => e = .returned (.tuple #[])) ∧ Below w.heap.size w w' := by
  have HB := hid hB
  have HN : Hid (∀ W, RdBox W B sg s k tv → Calls Try.prog 62 #[.pointer (some ⟨B, 0, none⟩)] W fun e w' => (match lookP s k with | .error p => e = faultP p.1 p.2 | .ok r => e = .returned (.tuple #[r.word.val, .int .i64 r.to])) ∧ Below W.heap.size W w') := hid fun W hW => by
    refine (look_any B sg tv s k W hW hs hk).mono ?_
    rintro e w' ⟨he, hb⟩
    unfold lookP
    split at he
    · rename_i h; rw [if_pos h]; exact ⟨he, hb⟩
    · rename_i h; rw [if_neg h]; exact ⟨he, hb⟩
  clear hB
  unfold endR
  obtain ⟨r, hr⟩ : ∃ r, lookP s k = r := ⟨_, rfl⟩
  rw [hr] at HN ⊢
  clear hr
  cases r with
  | error p =>
    dsimp only at HN ⊢
    unfold faultP at HN ⊢
    go_enter Try.func55, Try.ntmps55
    go_wp2_with fail
    refine (HN.out _ HB.out).mono ?_
    rintro e w1 ⟨rfl, hb1⟩
    go_wp2
    exact ⟨rfl, ⟨rfl, hb1⟩⟩
  | ok r =>
    obtain ⟨⟨wk, wt, wp⟩, te, er⟩ := r
    unfold Wd.val at HN
    dsimp only at HN ⊢
    go_enter Try.func55, Try.ntmps55
    go_wp2_with fail
    refine (HN.out _ HB.out).mono ?_
    rintro e w1 ⟨rfl, hb1⟩
    have B1 := alloc_below0 w1 (.cells #[.int .i64 wk, .string wt, .int .i64 wp] 71)
    have W1 : Hid (WdBox (w1.alloc (.cells #[.int .i64 wk, .string wt, .int .i64 wp] 71)) w1.heap.size ⟨wk, wt, wp⟩) := World.alloc_heap_new w1 _
    have HF : Hid (Below w.heap.size w (w1.alloc (.cells #[.int .i64 wk, .string wt, .int .i64 wp] 71))) := hid (hb1.trans (B1.mono hb1.size))
    clear hb1 B1 HB HN
    have y0 := W1.out.k0; have y1 := W1.out.k1; have y2 := W1.out.k2
    by_cases hz : wk = 0
    · subst hz
      go_wp2
      go_end0
      exact ⟨rfl, HF.out⟩
    · have hz1 : (wk != 0) = true := by simpa using hz
      go_wp2
      exact ⟨rfl, ⟨rfl, HF.out⟩⟩
end Go.Proofs.Ytkcbhbkldcebiaa
