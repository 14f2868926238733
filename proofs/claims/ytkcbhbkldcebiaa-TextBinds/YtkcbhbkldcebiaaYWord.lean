/- What the document's Reader answers: fails, word, peek. -/
import Derived.Test.YtkcbhbkldcebiaaXNext
import Derived.Test.YtkcbhbkldcebiaaRNext
namespace Go.Proofs.Ytkcbhbkldcebiaa
open Go.RowKit Go.Deep

/-- The document's reader: signature, text, place, error and its place. -/
def RfBox (W : World) (B : Nat) (sg : Value) (s : ByteArray) (k : Nat) (er : Int) (p : Nat) : Prop := W.heap[B]? = some (.cells #[sg, .string s, .int .i64 k, .int .i64 er, .int .i64 p] 64 (0, 0))
theorem RfBox.c0 {W : World} {B : Nat} {sg : Value} {s : ByteArray} {k p : Nat} {er : Int} (h : RfBox W B sg s k er p) : W.cell? ⟨B, 0, none⟩ = some sg := by simp [World.cell?, show W.heap[B]? = _ from h]
theorem RfBox.c1 {W : World} {B : Nat} {sg : Value} {s : ByteArray} {k p : Nat} {er : Int} (h : RfBox W B sg s k er p) : W.cell? ⟨B, 1, none⟩ = some (.string s) := by simp [World.cell?, show W.heap[B]? = _ from h]
theorem RfBox.c2 {W : World} {B : Nat} {sg : Value} {s : ByteArray} {k p : Nat} {er : Int} (h : RfBox W B sg s k er p) : W.cell? ⟨B, 2, none⟩ = some (.int .i64 k) := by simp [World.cell?, show W.heap[B]? = _ from h]
theorem RfBox.c3 {W : World} {B : Nat} {sg : Value} {s : ByteArray} {k p : Nat} {er : Int} (h : RfBox W B sg s k er p) : W.cell? ⟨B, 3, none⟩ = some (.int .i64 er) := by simp [World.cell?, show W.heap[B]? = _ from h]
theorem RfBox.c4 {W : World} {B : Nat} {sg : Value} {s : ByteArray} {k p : Nat} {er : Int} (h : RfBox W B sg s k er p) : W.cell? ⟨B, 4, none⟩ = some (.int .i64 p) := by simp [World.cell?, show W.heap[B]? = _ from h]
theorem RfBox.lt {W : World} {B : Nat} {sg : Value} {s : ByteArray} {k p : Nat} {er : Int} (h : RfBox W B sg s k er p) : B < W.heap.size := (Array.getElem?_eq_some_iff.1 h).1
theorem RfBox.f {W : World} {B i : Nat} {sg : Value} {s : ByteArray} {k p : Nat} {er : Int} (h : RfBox W B sg s k er p) : W.frozen? ⟨B, i, none⟩ = false := by simp [World.frozen?, show W.heap[B]? = _ from h]
theorem RfBox.below {W W' : World} {B : Nat} {sg : Value} {s : ByteArray} {k p : Nat} {er : Int} (h : RfBox W B sg s k er p) (hb : Below W.heap.size W W') : RfBox W' B sg s k er p := (hb.block B h.lt).trans h
theorem RfBox.set2 {W : World} {B : Nat} {sg : Value} {s : ByteArray} {k p : Nat} {er : Int} (h : RfBox W B sg s k er p) (m : Nat) : RfBox (W.setCell ⟨B, 2, none⟩ (.int .i64 m)) B sg s m er p := by
  have := block_set (k := 2) h (.int .i64 (m : Int))
  exact this
theorem RfBox.set34 {W : World} {B : Nat} {sg : Value} {s : ByteArray} {k p : Nat} {er : Int} (h : RfBox W B sg s k er p) (e : Int) (q : Nat) : RfBox ((W.setCell ⟨B, 3, none⟩ (.int .i64 e)).setCell ⟨B, 4, none⟩ (.int .i64 q)) B sg s k e q := by
  have := block_set (k := 4) (block_set (k := 3) h (.int .i64 e)) (.int .i64 (q : Int))
  exact this

set_option maxRecDepth 100000 in
set_option maxHeartbeats 1000000 in
theorem fails_rf (B : Nat) (sg : Value) (s : ByteArray) (k p : Nat) (er e : Int) (q : Nat) (w : World) (hB : RfBox w B sg s k er p) :
    Calls Try.prog 44 #[.pointer (some ⟨B, 0, none⟩), .int .i64 e, .int .i64 q] w fun x w' => x = .returned (.tuple #[]) ∧ RfBox w' B sg s k (if er = 0 then e else er) (if er = 0 then q else p) ∧ FrB B w w' := by
  have HB := hid hB
  have c3 := hB.c3; have c4 := hB.c4
  have f3 := hB.f (i := 3); have f4 := hB.f (i := 4)
  clear hB
  by_cases he : er = 0
  · subst he
    go_enter Try.func44, Try.ntmps44
    go_wp2
    go_end0
    exact ⟨rfl, HB.out.set34 e q, frB_set (frB_set (Fr.refl _ _) _) _⟩
  · have hne : (er == 0) = false := by simpa using he
    go_enter Try.func44, Try.ntmps44
    go_wp2
    go_end0
    exact ⟨rfl, HB.out, Fr.refl _ _⟩

/-- The next word, the place, the error and its place behind it. -/
def wordF (s : ByteArray) (k : Nat) (er : Int) (p : Nat) : Wd × Nat × Int × Nat :=
  if er = 0 then (if (nx s k).err = 0 then ((nx s k).word, (if (nx s k).word.kind = 0 then k else (nx s k).to), 0, p) else (noWd, k, (nx s k).err, (nx s k).to)) else (noWd, k, er, p)

set_option maxRecDepth 100000 in
set_option maxHeartbeats 2000000 in
theorem word_rf (B : Nat) (sg : Value) (s : ByteArray) (k p : Nat) (er : Int) (w : World) (hB : RfBox w B sg s k er p) (hs : s.size ≤ maxLen) (hk : k ≤ s.size) :
    Calls Try.prog 43 #[.pointer (some ⟨B, 0, none⟩)] w fun e w' => e = .returned (wordF s k er p).1.val ∧ RfBox w' B sg s (wordF s k er p).2.1 (wordF s k er p).2.2.1 (wordF s k er p).2.2.2 ∧ FrB B w w' := by
  obtain ⟨o, ho⟩ : ∃ o, wordF s k er p = o := ⟨_, rfl⟩
  rw [ho]
  unfold wordF at ho
  have HB := hid hB
  have HN : Hid (∀ W, Calls Try.prog 65 #[.string s, .int .i64 k] W fun e w' => e = .returned (Nx.val (nx s k)) ∧ Below W.heap.size W w') := hid fun W => rnext_any s k W hs hk
  have B0 := alloc_below0 w (.cells #[.int .i64 0, .string ⟨#[]⟩, .int .i64 0] 71)
  have HB0 := hid (hB.below B0)
  have HL := hid B0
  have R0 : Hid (WdBox (w.alloc (.cells #[.int .i64 0, .string ⟨#[]⟩, .int .i64 0] 71)) w.heap.size noWd) := World.alloc_heap_new w _
  have hBlt := hB.lt
  clear hB B0
  by_cases he : er = 0
  · subst he
    rw [if_pos rfl] at ho
    obtain ⟨r, hr⟩ : ∃ r, nx s k = r := ⟨_, rfl⟩
    rw [hr] at HN ho
    obtain ⟨⟨wk, wt, wp⟩, te, er⟩ := r
    unfold Nx.val Wd.val at HN
    dsimp only at HN ho
    have HO := hid ho
    clear hr ho
    have c3 := HB0.out.c3
    go_enter Try.func43, Try.ntmps43
    go_upto_region 3 with fail
    clear c3
    generalize w.alloc (.cells #[.int .i64 0, .string ⟨#[]⟩, .int .i64 0] 71) = W0 at HB0 HL R0 ⊢
    have Q1 := hid HB0.out.c1; have Q2 := hid HB0.out.c2
    have hw0 : w.heap.size < W0.heap.size := R0.out.ltB
    go_cut [3, 4, 5] (fun p t e wc => ∃ g, p = .pointer (some ⟨g, 0, none⟩) ∧ t = .int .i64 te ∧ e = .int .i64 er ∧ WdBox wc g ⟨wk, wt, wp⟩ ∧ W0.heap.size ≤ g ∧ Below W0.heap.size W0 wc)
    case first =>
      go_region_held3 (fun w' => w'.cell? ⟨B, 1, none⟩ = some (.string s) ∧ w'.cell? ⟨B, 2, none⟩ = some (.int .i64 k)) ((first
        | (refine ⟨?_, ?_⟩ <;> (with_reducible refine below_cell (w := W0) ?_ _ _ ?_; (solve | (repeat' first | (with_reducible exact Below.refl _ W0) | (with_reducible exact HB1.out) | (with_reducible refine Below.drew ?_) | (with_reducible refine bl_over ?_ _) | (with_reducible refine sets_below ?_ (Nat.le_refl _) _ _ _))); first | exact Q1.out | exact Q2.out))
        | fail)) ((first
        | (go_at_call 65; refine Calls.mono (HN.out _) ?_; rintro e w1 ⟨rfl, hb1⟩; first
            | (have HB1 : Hid (Below W0.heap.size W0 w1) := ((Below.refl _ W0).drew).trans hb1; clear hb1)
            | (have HB1 : Hid (Below W0.heap.size W0 w1) := ((alloc_below0 W0 (.cells #[.int .i64 0, .string ⟨#[]⟩, .int .i64 0] 71)).drew).trans (hb1.mono (by show _ ≤ (W0.alloc _).heap.size; rw [World.size_alloc]; omega)); have HY1 : Hid (WdBox w1 W0.heap.size noWd) := WdBox.later (W := World.drew (World.alloc W0 (.cells #[.int .i64 0, .string ⟨#[]⟩, .int .i64 0] 71))) (World.alloc_heap_new W0 _) hb1; have y0 := HY1.out.k0; have y1 := HY1.out.k1; have y2 := HY1.out.k2; have z0 := HY1.out.fz (i := 0); have z1 := HY1.out.fz (i := 1); have z2 := HY1.out.fz (i := 2); clear hb1))
        | fail))
      all_goals (go_wp2_with fail; go_meet)
      all_goals first
        | exact ⟨w1.heap.size, rfl, rfl, rfl, World.alloc_heap_new w1 _, HB1.out.size, HB1.out.alloc HB1.out.size _⟩
        | exact ⟨W0.heap.size, rfl, rfl, rfl, HY1.out.all ⟨wk, wt, wp⟩, Nat.le_refl _, sets_below HB1.out (Nat.le_refl _) _ _ _⟩
    case rest =>
      obtain ⟨g, rfl, rfl, rfl, hbx, hg, hbc⟩ := hcut
      have y0 := hbx.k0; have y1 := hbx.k1; have y2 := hbx.k2
      have LOW := hid (HL.out.trans (hbc.mono HL.out.size))
      have R1 : Hid (WdBox wc w.heap.size noWd) := WdBox.later R0.out hbc
      have RB := hid (HB0.out.below hbc)
      have HBX := hid hbx
      have u0 := R1.out.k0; have u1 := R1.out.k1; have u2 := R1.out.k2
      have z0 := R1.out.fz (i := 0); have z1 := R1.out.fz (i := 1); have z2 := R1.out.fz (i := 2)
      have c2 := RB.out.c2; have f2 := RB.out.f (i := 2)
      have ne2 : B ≠ w.heap.size := by omega
      have ne3 : B ≠ g := by have := HB0.out.lt; omega
      have ne4 : g ≠ w.heap.size := by omega
      clear hbx hbc HB0 HL R0 Q1 Q2 HN
      by_cases hz : er = 0
      · subst hz
        have ho := HO.out
        rw [if_pos rfl] at ho
        by_cases hk0 : wk = 0
        · subst hk0
          rw [if_pos rfl] at ho
          go_wp2
          refine ret_wd rfl rfl (R1.out.all ⟨0, wt, wp⟩) rfl ?_
          rw [← ho]
          exact ⟨rfl, (sets_far ne2 _ _ _).trans RB.out, frB_sets (Fr.of_below LOW.out) (Nat.le_refl _) _ _ _⟩
        · rw [if_neg hk0] at ho
          have hk1 : (wk != 0) = true := by simpa using hk0
          go_wp2
          refine ret_wd rfl rfl (WdBox.all (y := noWd) ((Below.heap_setCell _ _ _ _ (Ne.symm ne2)).trans R1.out) ⟨wk, wt, wp⟩) rfl ?_
          rw [← ho]
          exact ⟨rfl, (sets_far ne2 _ _ _).trans (RB.out.set2 te), frB_sets (frB_set (Fr.of_below LOW.out) _) (Nat.le_refl _) _ _ _⟩
      · have ho := HO.out
        rw [if_neg hz] at ho
        have hz1 : (er != 0) = true := by simpa using hz
        go_wp2_with fail
        refine (fails_rf B sg s k p 0 er te wc RB.out).mono ?_
        rintro e w2 ⟨rfl, hrb, hf⟩
        rw [if_pos rfl, if_pos rfl] at hrb
        have R2 : Hid (WdBox w2 w.heap.size noWd) := hid ((hf.same _ R1.out.ltB (Ne.symm ne2)).trans R1.out)
        have RB2 := hid hrb
        have F2 := hid ((Fr.of_below LOW.out).trans hf)
        clear hrb hf z0 z1 z2 u0 u1 u2 y0 y1 y2 c2 f2
        have z0 := R2.out.fz (i := 0); have z1 := R2.out.fz (i := 1); have z2 := R2.out.fz (i := 2)
        have u0 := R2.out.k0; have u1 := R2.out.k1; have u2 := R2.out.k2
        go_wp2
        refine ret_wd rfl rfl (R2.out.all noWd) rfl ?_
        rw [← ho]
        exact ⟨rfl, (sets_far ne2 _ _ _).trans RB2.out, frB_sets F2.out (Nat.le_refl _) _ _ _⟩
  · rw [if_neg he] at ho
    have hne : (er != 0) = true := by simpa using he
    have c3 := HB0.out.c3
    have z0 := R0.out.fz (i := 0); have z1 := R0.out.fz (i := 1); have z2 := R0.out.fz (i := 2)
    have u0 := R0.out.k0; have u1 := R0.out.k1; have u2 := R0.out.k2
    have ne2 : B ≠ w.heap.size := by omega
    go_enter Try.func43, Try.ntmps43
    go_wp2
    refine ret_wd rfl rfl (x := noWd) R0.out rfl ?_
    rw [← ho]
    exact ⟨rfl, HB0.out, Fr.of_below HL.out⟩

set_option maxRecDepth 100000 in
set_option maxHeartbeats 2000000 in
theorem peek_rf (B : Nat) (sg : Value) (s : ByteArray) (k p : Nat) (er : Int) (w : World) (hB : RfBox w B sg s k er p) (hs : s.size ≤ maxLen) (hk : k ≤ s.size) :
    Calls Try.prog 42 #[.pointer (some ⟨B, 0, none⟩)] w fun e w' => e = .returned (wordF s k er p).1.val ∧ RfBox w' B sg s k (wordF s k er p).2.2.1 (wordF s k er p).2.2.2 ∧ FrB B w w' := by
  have HB := hid hB
  have HN : Hid (∀ W, RfBox W B sg s k er p → Calls Try.prog 43 #[.pointer (some ⟨B, 0, none⟩)] W fun e w' => e = .returned (wordF s k er p).1.val ∧ RfBox w' B sg s (wordF s k er p).2.1 (wordF s k er p).2.2.1 (wordF s k er p).2.2.2 ∧ FrB B W w') := hid fun W hW => word_rf B sg s k p er W hW hs hk
  obtain ⟨o, ho⟩ : ∃ o, wordF s k er p = o := ⟨_, rfl⟩
  rw [ho] at HN ⊢
  obtain ⟨⟨wk, wt, wp⟩, k', er', p'⟩ := o
  unfold Wd.val at HN
  unfold Wd.val
  dsimp only at HN ⊢
  have B0 := alloc_below0 w (.cells #[.int .i64 0, .string ⟨#[]⟩, .int .i64 0] 71)
  have HB0 := hid (hB.below B0)
  have HL := hid B0
  have R0 : Hid (WdBox (w.alloc (.cells #[.int .i64 0, .string ⟨#[]⟩, .int .i64 0] 71)) w.heap.size noWd) := World.alloc_heap_new w _
  have hBlt := hB.lt
  clear hB B0 ho
  have c2 := HB0.out.c2
  go_enter Try.func42, Try.ntmps42
  go_wp2_with fail
  refine (HN.out _ HB0.out).mono ?_
  rintro e w1 ⟨rfl, hrb, hf1⟩
  have hw1 := hf1.low.size
  rw [World.size_alloc] at hw1
  have B1 := alloc_below0 w1 (.cells #[.int .i64 wk, .string wt, .int .i64 wp] 71)
  have RB := hid (hrb.below B1)
  have R1 : Hid (WdBox (w1.alloc (.cells #[.int .i64 wk, .string wt, .int .i64 wp] 71)) w.heap.size noWd) := hid (WdBox.later ((hf1.same _ R0.out.ltB (by omega)).trans R0.out) B1)
  have W1 : Hid (WdBox (w1.alloc (.cells #[.int .i64 wk, .string wt, .int .i64 wp] 71)) w1.heap.size ⟨wk, wt, wp⟩) := World.alloc_heap_new w1 _
  have HF : Hid (FrB B w (w1.alloc (.cells #[.int .i64 wk, .string wt, .int .i64 wp] 71))) := hid (((Fr.of_below HL.out).trans hf1).trans (Fr.of_below B1))
  clear hrb hf1 B1 HB0 HN HL R0 c2
  have y0 := W1.out.k0; have y1 := W1.out.k1; have y2 := W1.out.k2
  have r0 := R1.out.k0; have r1 := R1.out.k1; have r2 := R1.out.k2
  have z0 := R1.out.fz (i := 0); have z1 := R1.out.fz (i := 1); have z2 := R1.out.fz (i := 2)
  have c2 := RB.out.c2; have f2 := RB.out.f (i := 2)
  have ne2 : B ≠ w.heap.size := by omega
  have ne1 : B ≠ w1.heap.size := by omega
  go_wp2
  refine ret_wd rfl rfl (WdBox.all (y := noWd) ((Below.heap_setCell _ _ _ _ (Ne.symm ne2)).trans R1.out) ⟨wk, wt, wp⟩) rfl ?_
  exact ⟨rfl, (sets_far ne2 _ _ _).trans (RB.out.set2 k), frB_sets (frB_set HF.out _) (Nat.le_refl _) _ _ _⟩
end Go.Proofs.Ytkcbhbkldcebiaa
