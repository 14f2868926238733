/- For every signature and every list of texts TextEquations returns true: Equation of package text reads each text as the document says, or tells what is wrong and where, and what was handed in stays; no condition. -/
import Derived.Test.YtkcbhbkldcebiaaZCheck
import Derived.RegionDies
import Derived.Test.YtkcbhbkldcebiaaZRead
import Derived.Test.YtkcbhbkldcebiaaYDoc
import Derived.Test.YtkcbhbkldcebiaaTTWalk
namespace Go.Proofs.Ytkcbhbkldcebiaa
open Go.RowKit Go.Deep

/-- How whole ends, and what it does not touch. -/
def WholeFr (B : Nat) (sg : Value) (s : ByteArray) (b : Nat) (tv : Value) (ks : List Kv) (w : World) (res : Except (Int × Nat) (Fo × Nat)) (e : Ending) (w' : World) : Prop := (match res with
    | .error p => e = faultP p.1 p.2
    | .ok (F, k') => ∃ (k : Kv) (tv' : Value), F = .node 0 0 k.x k.l .nil ∧ e = .returned (.agg #[.string k.x.1, .int .i64 k.x.2, .slice k.a (lenF k.l) k.c]) ∧ RdBox w' B sg s k' tv' ∧ Lst b w' tv' (ks ++ [k]) ∧ (∀ q, q < w.heap.size → q ≠ B → some q ≠ tv.ownBlock → w'.heap[q]? = w.heap[q]?)) ∧ Below B w w'
theorem note_leaf2 {w W3 w4 : World} {B b g cap k' N : Nat} {sg tv tv4 : Value} {s : ByteArray} {ks : List Kv} {k z : Kv} {o : Obj} (hF : FrB B w W3) (hL : Lst b w tv ks) (hb : B < b) (hbw : b ≤ w.heap.size) (hm : OwnTm false (fun q => w.heap.size < q) W3 k.x k.a k.c k.l)
    (hgrow : (W3.alloc o).grownBy w4 tv.ownBlock) (hat : tv.ownBlock = some g ∨ g = W3.heap.size + 1) (hown : w4.ownsRow b 28 3 (.slice (some ⟨g, 0, none⟩) (ks.length + 1) cap) (ks.length + 1) (kvCells ks ++ Kv.cells z)) (hbox : RdBox w4 B sg s k' tv4) {W5 : World}
    (hW : W5 = ((((w4.setCell ⟨g, ks.length * 3, none⟩ (.string k.x.1)).setCell ⟨g, ks.length * 3 + 1, none⟩ (.int .i64 k.x.2)).setCell ⟨g, ks.length * 3 + 2, none⟩ (.slice k.a (lenF k.l) k.c)).setCell ⟨B, 3, none⟩ (.slice (some ⟨g, 0, none⟩) (ks.length + 1) cap)) ∨
      W5 = ((((w4.setCell ⟨B, 3, none⟩ (.slice (some ⟨g, 0, none⟩) (ks.length + 1) cap)).setCell ⟨g, ks.length * 3, none⟩ (.string k.x.1)).setCell ⟨g, ks.length * 3 + 1, none⟩ (.int .i64 k.x.2)).setCell ⟨g, ks.length * 3 + 2, none⟩ (.slice k.a (lenF k.l) k.c)))
    (hX : XBox W3 N k.x (.slice k.a (lenF k.l) k.c)) (hZ : XBox W3 w.heap.size (⟨#[]⟩, 0) (.slice none 0 0)) (hN : N < W3.heap.size) (hwN : w.heap.size < N) (hBw : B < w.heap.size) :
    ∃ g' cap', (Value.slice (some ⟨g, 0, none⟩) (ks.length + 1) cap) = .slice (some ⟨g', 0, none⟩) (ks.length + 1) cap' ∧ RdBox W5 B sg s k' (.slice (some ⟨g, 0, none⟩) (ks.length + 1) cap) ∧ LstX w.heap.size b W5 (.slice (some ⟨g, 0, none⟩) (ks.length + 1) cap) (ks ++ [k]) ∧ Below B w W5 ∧ XBox W5 N k.x (.slice k.a (lenF k.l) k.c) ∧ XBox W5 w.heap.size (⟨#[]⟩, 0) (.slice none 0 0) ∧ (∀ q, q < w.heap.size → q ≠ B → some q ≠ tv.ownBlock → W5.heap[q]? = w.heap[q]?) := by
  obtain ⟨g', cap', h1, h2, h3, h4, h5, h6⟩ := note_leaf hF hL hb hbw hm hgrow hat hown hbox hW hX hZ hN hwN hBw
  have hgb : b ≤ g := (owns_cells hown rfl).1
  have hsz := hF.low.size
  refine ⟨g', cap', h1, h2, h3, h4, h5, h6, fun q hq hB hn => ?_⟩
  have hqg : q ≠ g := fun e => by
    rcases hat with h | h
    · exact hn (by rw [h, e])
    · omega
  have h7 : W5.heap[q]? = w4.heap[q]? := by
    rcases hW with rfl | rfl
    · exact (set_far hB _).trans (sets_far3 hqg _ _ _)
    · exact (sets_far3 hqg _ _ _).trans (set_far hB _)
  exact h7.trans (((hgrow.block q (by rw [World.size_alloc]; omega) hn).trans ((alloc_below0 W3 o).block q (by omega))).trans (hF.same q hq hB))

set_option maxRecDepth 100000 in
set_option maxHeartbeats 4000000 in
theorem whole_fr {w0 : World} {B : Nat} {S : Option Addr} {n cap : Nat} {l : List Sym} {s : ByteArray} (hB0 : w0.heap.size ≤ B) (hs : s.size ≤ 800) (hS : SigAt w0 S n l) (b : Nat) (hb : B < b) (k : Nat) (tv : Value) (ks : List Kv) (w : World) (hk : k ≤ s.size) (hlen : ks.length ≤ k) (hB : RdBox w B (.slice S n cap) s k tv) (hL : Below w0.heap.size w0 w) (hT : Lst b w tv ks) (hbw : b ≤ w.heap.size) :
    Calls Try.prog 32 #[.pointer (some ⟨B, 0, none⟩)] w fun e w' => WholeFr B (.slice S n cap) s b tv ks w (rdC s l false k) e w' := by
  have B0 := alloc_below0 w (.cells #[.string ⟨#[]⟩, .int .i64 0, .slice none 0 0] 28)
  have ht := term_all (tv := tv) (cap := cap) hB0 hs hS (s.size - k) k (w.alloc (.cells #[.string ⟨#[]⟩, .int .i64 0, .slice none 0 0] 28)) hk (Nat.le_refl _) (hB.below B0) (hL.trans (B0.mono hL.size))
  go_enter Try.func32, Try.ntmps32
  go_wp2_with fail
  cases hr : rdC s l false k with
  | error p =>
    rw [hr] at ht
    unfold TermEnd at ht
    dsimp only at ht
    unfold faultP at ht
    refine ht.mono ?_
    rintro e w2 ⟨rfl, hf2⟩
    go_wp2
    exact ⟨rfl, by rw [hr]; exact ⟨rfl, ((Fr.of_below B0).trans hf2).below (fun _ hk => hk ▸ Nat.le_refl _) (Nat.le_of_lt hB.lt)⟩⟩
  | ok q =>
    obtain ⟨G, k'⟩ := q
    have hk2 := rdC_to hk hr
    rw [hr] at ht
    unfold TermEnd at ht
    dsimp only at ht
    refine ht.mono ?_
    rintro e w2 ⟨⟨x, m, ta, tc, rfl, rfl, ho2, hrb2⟩, hf2⟩
    go_wp2_with fail
    have hz1 := hf2.low.size
    rw [World.size_alloc] at hz1
    obtain ⟨i0, hi, hz0, hz1', hz2⟩ := info_parts Try.info28
    have B2 := alloc_below0 w2 (.cells #[.string x.1, .int .i64 x.2, .slice ta (lenF m) tc] 28)
    have X3 : Hid (XBox (w2.alloc (.cells #[.string x.1, .int .i64 x.2, .slice ta (lenF m) tc] 28)) w2.heap.size x (.slice ta (lenF m) tc)) := World.alloc_heap_new w2 _
    have Z0 : XBox (w.alloc (.cells #[.string ⟨#[]⟩, .int .i64 0, .slice none 0 0] 28)) w.heap.size (⟨#[]⟩, 0) (.slice none 0 0) := World.alloc_heap_new w _
    have Z2 : XBox w2 w.heap.size (⟨#[]⟩, 0) (.slice none 0 0) := (hf2.same w.heap.size (by rw [World.size_alloc]; omega) (by have := hB.lt; omega)).trans Z0
    have Z3 := hid (Z2.below B2)
    have R3 := hid (hrb2.below B2)
    have F3 : Hid (FrB B w (w2.alloc (.cells #[.string x.1, .int .i64 x.2, .slice ta (lenF m) tc] 28))) := hid (((Fr.of_below B0).trans hf2).trans (Fr.of_below B2))
    have O3 : Hid (OwnTm false (fun q => w.heap.size < q) (w2.alloc (.cells #[.string x.1, .int .i64 x.2, .slice ta (lenF m) tc] 28)) x ta tc m) := hid ((ho2.mono (fun q _ hq => by rw [World.size_alloc] at hq; omega)).below B2)
    have LT := hid hT
    obtain ⟨a0, c0, htv, hcc, hcm, hrow0, hnone, hsome⟩ := row_of_owns hT.row
    have L3 : Hid (Lst b (w2.alloc (.cells #[.string x.1, .int .i64 x.2, .slice ta (lenF m) tc] 28)) tv ks) := hid (hT.fr F3.out hb)
    have hs3 : Hid ((w2.alloc (.cells #[.string x.1, .int .i64 x.2, .slice ta (lenF m) tc] 28)).heap.size = w2.heap.size + 1) := by show _ = _; rw [World.size_alloc]
    have hbB := hB.lt
    clear ht hf2 hrb2 ho2 Z0 Z2 B2 B0 hT hL hrow0 hnone hsome hB hcc hcm
    subst htv
    have HW : Hid (w.heap.size < w2.heap.size) := by show _ < _; omega
    have q3 := R3.out.c3; have f3 := R3.out.f (i := 3)
    have x0 := X3.out.c0; have x1 := X3.out.c1; have x2 := X3.out.c2
    generalize w2.alloc (.cells #[.string x.1, .int .i64 x.2, .slice ta (lenF m) tc] 28) = W3 at X3 Z3 R3 F3 O3 L3 hs3 q3 f3 x0 x1 x2 ⊢
    have BZ := alloc_below0 W3 (.cells #[.string ⟨#[]⟩, .int .i64 0, .slice none 0 0] 28)
    have x0' := (X3.out.below BZ).c0; have x1' := (X3.out.below BZ).c1; have x2' := (X3.out.below BZ).c2; have q3' := (R3.out.below BZ).c3
    clear BZ
    have hidx : ((ks.length : Nat) : Int) < (ks.length : Int) + 1 := by omega
    go_cut [13] (fun v wc => ∃ g cap', v = .slice (some ⟨g, 0, none⟩) (ks.length + 1) cap' ∧ RdBox wc B (.slice S n cap) s k' v ∧ LstX w.heap.size b wc v (ks ++ [⟨x, m, ta, tc⟩]) ∧ Below B w wc ∧ XBox wc w2.heap.size x (.slice ta (lenF m) tc) ∧ XBox wc w.heap.size (⟨#[]⟩, 0) (.slice none 0 0) ∧ (∀ q, q < w.heap.size → q ≠ B → some q ≠ (Value.slice a0 ks.length c0).ownBlock → wc.heap[q]? = w.heap[q]?))
    case first =>
      go_region_law (refine step_append_lies _ (by rfl) (.tmp 9) (.tmp 12) 26 (by rfl) b 28 i0 _ 3 48 Try.underlying26 hi hz0 hz1' hz2 rfl (by decide) (.slice a0 ks.length c0) ks.length (kvCells ks) (by rfl) (owns_below L3.out.row ((Below.refl _ W3).alloc (Nat.le_refl _) _).drew) ⟨W3.heap.size, 0, none⟩ 1 1 (Kv.cells ⟨(⟨#[]⟩, 0), .nil, none, 0⟩) (by rfl) rfl (World.news_of_block (heap_alloc_new W3 _)) (kv_one _) (by decide) (by unfold maxLen; omega) (by omega) (by simp; have := hs3.out; have := HW.out; omega) _ rfl ?_; intro g4 cap4 w4 hown4 hgrow4 hat4 hlt4; have hg4 : b ≤ g4 := (owns_cells hown4 rfl).1; have hgB : ¬ g4 = B := (by omega); have hBg : ¬ B = g4 := fun e => hgB e.symm; have R4 : Hid (RdBox w4 B (.slice S n cap) s k' (.slice a0 ks.length c0)) := hid ((hgrow4.block B (by have := hs3.out; have := HW.out; simp; omega) (fun e => by have := (owns_cells L3.out.row e.symm).1; omega)).trans (R3.out.below (alloc_below0 W3 _).drew)); have r3 := R4.out.c3; have rf3 := R4.out.f (i := 3); have z0 : w4.cell? ⟨g4, ks.length * 3, none⟩ = some (.string ⟨#[]⟩) := owns_slot hown4 0 (by simp [Kv.cells]); have z1 : w4.cell? ⟨g4, ks.length * 3 + 1, none⟩ = some (.int .i64 0) := owns_slot hown4 1 (by simp [Kv.cells]); have z2 : w4.cell? ⟨g4, ks.length * 3 + 2, none⟩ = some (.slice none 0 0) := owns_slot hown4 2 (by simp [Kv.cells]); have y0 := hown4.frozenAt (ks.length * 3); have y1 := hown4.frozenAt (ks.length * 3 + 1); have y2 := hown4.frozenAt (ks.length * 3 + 2); have HO4 := hid hown4; have HG4 := hid (undrew hgrow4); have HA4 := hid hat4; clear hown4 hgrow4 hat4)
      all_goals (go_wp2_with fail; go_meet)
      all_goals
        refine note_leaf2 (k := ⟨x, m, ta, tc⟩) F3.out LT.out hb hbw O3.out HG4.out (HA4.out.imp id (fun e => by simpa using e)) HO4.out R4.out ?_ X3.out Z3.out (by have := hs3.out; omega) HW.out hbB
        first
          | (exact .inl (by with_reducible rfl))
          | (exact .inr (by with_reducible rfl))
    case rest =>
      obtain ⟨g, cap', rfl, hR, hLs, hlow, hX, hZ, hrst⟩ := hcut
      have HRST := hid hrst
      have HR := hid hR; have HLs := hid hLs; have HL := hid hlow; have HZ := hid hZ
      have u0 := hX.c0; have u1 := hX.c1; have u2 := hX.c2
      have z0 := hZ.c0; have z1 := hZ.c1; have z2 := hZ.c2
      have y0 := hZ.f (k := 0); have y1 := hZ.f (k := 1); have y2 := hZ.f (k := 2)
      clear hR hLs hlow hZ hX hrst X3 Z3 R3 F3 O3 L3 LT
      go_wp2
      refine bodyPost_ret (results_cell_row rfl _ _ w.heap.size 28 #[.string x.1, .int .i64 x.2, .slice ta (lenF m) tc] (0, 0) _ rfl (HZ.out.all (x := x) _) Try.underlying28 rfl Try.size28) rfl ?_
      exact ⟨⟨⟨x, m, ta, tc⟩, _, rfl, rfl, (sets_far (by omega) _ _ _).trans HR.out, HLs.out.sets _ _ _, fun q hq hB hn => (sets_far (by omega) _ _ _).trans (HRST.out q hq hB hn)⟩, sets_below HL.out (by omega) _ _ _⟩
end Go.Proofs.Ytkcbhbkldcebiaa

namespace Go.Proofs.Ytkcbhbkldcebiaa
open Go.RowKit Go.Deep

/-- An equation's box. -/
def EBox (W : World) (B : Nat) (x : ByteArray × Int) (v : Value) (y : ByteArray × Int) (u : Value) : Prop := W.heap[B]? = some (.cells #[.string x.1, .int .i64 x.2, v, .string y.1, .int .i64 y.2, u] 35 (0, 0))
theorem EBox.c {W : World} {B : Nat} {x y : ByteArray × Int} {v u : Value} (h : EBox W B x v y u) (i : Nat) (hi : i < 6 := by decide) : W.cell? ⟨B, i, none⟩ = some ((#[.string x.1, .int .i64 x.2, v, .string y.1, .int .i64 y.2, u] : Array Value)[i]'hi) := by
  simp [World.cell?, show W.heap[B]? = _ from h]
theorem EBox.f {W : World} {B : Nat} {x y : ByteArray × Int} {v u : Value} (h : EBox W B x v y u) (i : Nat) : W.frozen? ⟨B, i, none⟩ = false := by simp [World.frozen?, show W.heap[B]? = _ from h]
/-- Two terms with the sign between, as they are read. -/
def eqC (s : ByteArray) (l : List Sym) (k : Nat) : Except (Int × Nat) (Tn × Tn × Nat) := match rdC s l false k with
  | .error e => .error e
  | .ok (.nil, _) => .error (0, 0)
  | .ok (.node _ _ x m _, k1) => match wantP s k1 6 with
    | .error e => .error e
    | .ok r => match rdC s l false r.to with
      | .error e => .error e
      | .ok (.nil, _) => .error (0, 0)
      | .ok (.node _ _ y u _, k2) => .ok ((x, m), (y, u), k2)
/-- How equation ends. -/
def EqEnd (B : Nat) (sg : Value) (s : ByteArray) (w : World) (res : Except (Int × Nat) (Tn × Tn × Nat)) (e : Ending) (w' : World) : Prop := (match res with
    | .error p => e = faultP p.1 p.2
    | .ok (t, u, k') => ∃ (k j : Kv) (tv' : Value), t = k.tn ∧ u = j.tn ∧ e = .returned (.agg #[.string k.x.1, .int .i64 k.x.2, .slice k.a (lenF k.l) k.c, .string j.x.1, .int .i64 j.x.2, .slice j.a (lenF j.l) j.c]) ∧ RdBox w' B sg s k' tv' ∧ Lst (w.heap.size + 1) w' tv' [k, j] ∧ k' ≤ s.size) ∧ Below B w w'
theorem ebox_all {W : World} {B : Nat} {x y : ByteArray × Int} {v u : Value} (h : EBox W B x v y u) (x' y' : ByteArray × Int) (v' u' : Value) :
    EBox ((((((W.setCell ⟨B, 0, none⟩ (.string x'.1)).setCell ⟨B, 1, none⟩ (.int .i64 x'.2)).setCell ⟨B, 2, none⟩ v').setCell ⟨B, 3, none⟩ (.string y'.1)).setCell ⟨B, 4, none⟩ (.int .i64 y'.2)).setCell ⟨B, 5, none⟩ u') B x' v' y' u' := by
  have := block_set (k := 5) (block_set (k := 4) (block_set (k := 3) (block_set (k := 2) (block_set (k := 1) (block_set (k := 0) h (.string x'.1)) (.int .i64 x'.2)) v') (.string y'.1)) (.int .i64 y'.2)) u'
  exact this
theorem sets_far6 {W : World} {B q : Nat} (h : q ≠ B) (a b c d e f : Value) : ((((((W.setCell ⟨B, 0, none⟩ a).setCell ⟨B, 1, none⟩ b).setCell ⟨B, 2, none⟩ c).setCell ⟨B, 3, none⟩ d).setCell ⟨B, 4, none⟩ e).setCell ⟨B, 5, none⟩ f).heap[q]? = W.heap[q]? :=
  (set_far h f).trans ((set_far h e).trans ((set_far h d).trans (sets_far h a b c)))
theorem sets_low6 {n0 : Nat} {w W : World} {B : Nat} (hb : Below n0 w W) (h : n0 ≤ B) (a b c d e f : Value) : Below n0 w ((((((W.setCell ⟨B, 0, none⟩ a).setCell ⟨B, 1, none⟩ b).setCell ⟨B, 2, none⟩ c).setCell ⟨B, 3, none⟩ d).setCell ⟨B, 4, none⟩ e).setCell ⟨B, 5, none⟩ f) :=
  set_low (set_low (set_low (sets_below hb h a b c) h d) h e) h f
/-- A list under way that is not in this block. -/
theorem Lst.far {N B : Nat} {W W' : World} {v : Value} {ks : List Kv} (h : Lst B W v ks) (hv : v.ownBlock ≠ some N) (ho : ∀ k ∈ ks, OwnTm false (fun q => (B ≤ q ∧ some q ≠ v.ownBlock) ∧ q ≠ N) W k.x k.a k.c k.l) (hk : ∀ q, q ≠ N → W'.heap[q]? = W.heap[q]?) : Lst B W' v ks :=
  ⟨owns_block h.row (fun g hg => hk g (fun e => hv (by rw [hg, e]))), fun k hk' => ((ho k hk').keep (fun q hq _ => hk q hq.2)).mono (fun q _ hq => hq.1)⟩

set_option maxRecDepth 100000 in
set_option maxHeartbeats 4000000 in
theorem eq_rd {w0 : World} {B : Nat} {S : Option Addr} {n cap : Nat} {l : List Sym} {s : ByteArray} (hB0 : w0.heap.size ≤ B) (hs : s.size ≤ 800) (hS : SigAt w0 S n l) (w : World) (hB : RdBox w B (.slice S n cap) s 0 (.slice none 0 0)) (hL : Below w0.heap.size w0 w) :
    Calls Try.prog 38 #[.pointer (some ⟨B, 0, none⟩)] w fun e w' => EqEnd B (.slice S n cap) s w (eqC s l 0) e w' := by
  have B0 := alloc_below0 w (.cells #[.string ⟨#[]⟩, .int .i64 0, .slice none 0 0, .string ⟨#[]⟩, .int .i64 0, .slice none 0 0] 35)
  have E0 : EBox (w.alloc (.cells #[.string ⟨#[]⟩, .int .i64 0, .slice none 0 0, .string ⟨#[]⟩, .int .i64 0, .slice none 0 0] 35)) w.heap.size (⟨#[]⟩, 0) (.slice none 0 0) (⟨#[]⟩, 0) (.slice none 0 0) := World.alloc_heap_new w _
  have hBw := hB.lt
  have hs0 : (w.alloc (.cells #[.string ⟨#[]⟩, .int .i64 0, .slice none 0 0, .string ⟨#[]⟩, .int .i64 0, .slice none 0 0] 35)).heap.size = w.heap.size + 1 := World.size_alloc _ _
  have hc := whole_fr (cap := cap) hB0 hs hS (w.heap.size + 1) (by omega) 0 (.slice none 0 0) [] _ (Nat.zero_le _) (Nat.zero_le _) (hB.below B0) (hL.trans (B0.mono hL.size)) (Lst.nil _ _) (Nat.le_of_eq hs0.symm)
  have HC := hid hc; have HE := hid E0
  have HB0 : Hid (Below B w (w.alloc (.cells #[.string ⟨#[]⟩, .int .i64 0, .slice none 0 0, .string ⟨#[]⟩, .int .i64 0, .slice none 0 0] 35))) := hid (B0.mono (by omega))
  have HL := hid hL; have HS := hid hS
  have hsm : s.size ≤ maxLen := by unfold maxLen; omega
  obtain ⟨res, hres⟩ : ∃ res, eqC s l 0 = res := ⟨_, rfl⟩
  rw [hres]
  unfold eqC at hres
  clear hc B0 E0 hB hL hS
  go_enter Try.func38, Try.ntmps38
  go_wp2_with fail
  generalize w.alloc (.cells #[.string ⟨#[]⟩, .int .i64 0, .slice none 0 0, .string ⟨#[]⟩, .int .i64 0, .slice none 0 0] 35) = V0 at HC HE HB0 hs0 ⊢
  have hc := HC.out
  unfold WholeFr at hc
  cases hr : rdC s l false 0 with
  | error q =>
    rw [hr] at hc hres
    dsimp only at hc hres
    unfold faultP at hc
    refine hc.mono ?_
    rintro e w2 ⟨rfl, hb2⟩
    go_wp2
    exact ⟨rfl, by rw [← hres]; exact ⟨rfl, HB0.out.trans hb2⟩⟩
  | ok qq =>
    obtain ⟨F, k1⟩ := qq
    have hk1 := rdC_to (Nat.zero_le _) hr
    rw [hr] at hc hres
    dsimp only at hc
    refine hc.mono ?_
    rintro e w2 ⟨⟨⟨x, m, ta, tc⟩, tv, rfl, rfl, hrb2, hls2, hfr2⟩, hb2⟩
    dsimp only at hres ⊢
    have hz2 := hb2.size
    have B2 := alloc_below0 w2 (.cells #[.string x.1, .int .i64 x.2, .slice ta (lenF m) tc] 28)
    have T2 : XBox (w2.alloc (.cells #[.string x.1, .int .i64 x.2, .slice ta (lenF m) tc] 28)) w2.heap.size x (.slice ta (lenF m) tc) := World.alloc_heap_new w2 _
    have R2 := hrb2.below B2
    have L2 := hls2.below B2
    have E2 : EBox (w2.alloc (.cells #[.string x.1, .int .i64 x.2, .slice ta (lenF m) tc] 28)) w.heap.size (⟨#[]⟩, 0) (.slice none 0 0) (⟨#[]⟩, 0) (.slice none 0 0) := (B2.block _ (by omega)).trans ((hfr2 w.heap.size (by omega) (by omega) (by simp [Value.ownBlock])).trans HE.out)
    have hown2 : ∀ g, tv.ownBlock = some g → g < w2.heap.size ∧ w.heap.size + 1 ≤ g := fun g hg => ⟨hls2.lt hg, (owns_cells hls2.row hg).1⟩
    have HB2 : Hid (Below B w (w2.alloc (.cells #[.string x.1, .int .i64 x.2, .slice ta (lenF m) tc] 28))) := hid ((HB0.out.trans hb2).trans (B2.mono (by omega)))
    have hwt := want_rd B (.slice S n cap) tv s k1 6 _ R2 hsm hk1.2
    have HT2 := hid T2; have HE2 := hid E2; have HL2 := hid L2; have HO2 := hid hown2
    have HWT := hid hwt
    have HRS := hid hres
    clear hc hres hrb2 hls2 hfr2 hb2 B2 T2 R2 L2 E2 hown2 hwt HC HE HB0
    go_wp2_with fail
    generalize w2.alloc (.cells #[.string x.1, .int .i64 x.2, .slice ta (lenF m) tc] 28) = V2 at HT2 HE2 HL2 HB2 HWT ⊢
    have hwt := HWT.out
    cases hw : wantP s k1 6 with
    | error q =>
      have hres := HRS.out
      rw [hw] at hwt hres
      dsimp only at hwt hres
      unfold faultP at hwt
      refine hwt.mono ?_
      rintro e w3 ⟨rfl, hf3⟩
      go_wp2
      exact ⟨rfl, by rw [← hres]; exact ⟨rfl, HB2.out.trans (hf3.below (fun _ hk => hk ▸ Nat.le_refl _) (by have := HE2.out; have := HT2.out.lt; omega))⟩⟩
    | ok r =>
      have hres := HRS.out
      have hkr := want_ok hk1.2 hw
      rw [hw] at hwt hres
      dsimp only at hwt hres
      refine hwt.mono ?_
      rintro e w3 ⟨⟨rfl, hrb3⟩, hf3⟩
      have hV2 : w2.heap.size < V2.heap.size := HT2.out.lt
      have hz3 := hf3.low.size
      have T3' : XBox w3 w2.heap.size x (.slice ta (lenF m) tc) := (hf3.same _ hV2 (by omega)).trans HT2.out
      have E3' : EBox w3 w.heap.size (⟨#[]⟩, 0) (.slice none 0 0) (⟨#[]⟩, 0) (.slice none 0 0) := (hf3.same _ (by omega) (by omega)).trans HE2.out
      have L3' : Lst (w.heap.size + 1) w3 tv [⟨x, m, ta, tc⟩] := HL2.out.fr hf3 (by omega)
      have L3d : Lst (w.heap.size + 1) w3.drew tv [⟨x, m, ta, tc⟩] := ⟨L3'.row, fun k hk => OwnTm.keep (w := w3) (w' := w3.drew) (fun _ _ _ => rfl) (L3'.own k hk)⟩
      have B3 : Below B w w3 := HB2.out.trans (hf3.below (fun _ hk => hk ▸ Nat.le_refl _) (by omega))
      have hc2 := whole_fr (cap := cap) hB0 hs HS.out (w.heap.size + 1) (by omega) r.to tv [⟨x, m, ta, tc⟩] w3.drew hkr.2 (by simp; omega) hrb3 (HL.out.trans (B3.mono hB0)).drew L3d (by show _ ≤ w3.heap.size; omega)
      have hwz : w.heap.size < w3.heap.size := by omega
      have hwB : w.heap.size ≠ B := by omega
      have hwo : some w.heap.size ≠ tv.ownBlock := fun e => by have := (HO2.out _ e.symm).2; omega
      have htz : w2.heap.size < w3.heap.size := by omega
      have htB : w2.heap.size ≠ B := by omega
      have hto : some w2.heap.size ≠ tv.ownBlock := fun e => by have := (HO2.out _ e.symm).1; omega
      have HC2 := hid hc2; have T3 := hid T3'; have E3 := hid E3'; have HB3 := hid B3
      have HRS3 := hid hres
      have t0 := T3'.c0; have t1 := T3'.c1; have t2 := T3'.c2
      clear hwt hres hc2 hrb3 hf3 T3' E3' L3' L3d B3 HT2 HE2 HL2 HB2 HWT HRS
      go_wp2_with fail
      have hc2 := HC2.out
      unfold WholeFr at hc2
      cases hr2 : rdC s l false r.to with
      | error q =>
        have hres := HRS3.out
        rw [hr2] at hc2 hres
        dsimp only at hc2 hres
        unfold faultP at hc2
        have HC3 := hid hc2
        have HRS4 := hid hres
        clear hc2 hres HC2
        go_region_dies
        all_goals (try go_wp2_with fail)
        all_goals (refine HC3.out.mono ?_; rintro e w4 ⟨rfl, hb4⟩; exact ⟨rfl, by rw [← HRS4.out]; exact ⟨rfl, HB3.out.drew.trans hb4⟩⟩)
      | ok qq =>
        obtain ⟨G, k2⟩ := qq
        have hk2 := rdC_to hkr.2 hr2
        have hres := HRS3.out
        rw [hr2] at hc2 hres
        dsimp only at hc2
        have HC3 := hid hc2
        have HRS4 := hid hres
        clear hc2 hres HC2
        go_region_law ((first
          | (go_simp; go_wp2_with (go_at_call 32; refine HC3.out.mono ?_; rintro e w4 ⟨⟨⟨y, u, ua, uc⟩, tv4, rfl, rfl, hrb4, hls4, hfr4⟩, hb4⟩; have E4 : EBox w4 w.heap.size (⟨#[]⟩, 0) (.slice none 0 0) (⟨#[]⟩, 0) (.slice none 0 0) := (hfr4 w.heap.size hwz hwB hwo).trans E3.out; have T4 : XBox w4 w2.heap.size x (.slice ta (lenF m) tc) := (hfr4 w2.heap.size htz htB hto).trans T3.out; have t4a := T4.c0; have t4b := T4.c1; have t4c := T4.c2; have c0 := E4.c 0; have c1 := E4.c 1; have c2 := E4.c 2; have c3 := E4.c 3; have c4 := E4.c 4; have c5 := E4.c 5; have f0 := E4.f 0; have f1 := E4.f 1; have f2 := E4.f 2; have f3 := E4.f 3; have f4 := E4.f 4; have f5 := E4.f 5; have HE4 := hid E4; have HR4 := hid hrb4; have HL4 := hid hls4; have HB4 := hid hb4; clear E4 T4 hrb4 hls4 hfr4 hb4))
          | fail))
        all_goals
          go_wp2
          refine bodyPost_ret (results_cell_row rfl _ _ w.heap.size 35 #[.string x.1, .int .i64 x.2, .slice ta (lenF m) tc, .string y.1, .int .i64 y.2, .slice ua (lenF u) uc] (0, 0) _ rfl (ebox_all HE4.out x y (.slice ta (lenF m) tc) (.slice ua (lenF u) uc)) Try.underlying35 rfl (by kernel_rfl)) rfl ?_
          rw [← HRS4.out]
          refine ⟨⟨⟨x, m, ta, tc⟩, ⟨y, u, ua, uc⟩, _, rfl, rfl, rfl, (sets_far6 (by omega) _ _ _ _ _ _).trans HR4.out, ?_, hk2.2⟩, sets_low6 (HB3.out.drew.trans HB4.out) (by omega) _ _ _ _ _ _⟩
          have hl := HL4.out
          exact ⟨owns_block hl.row (fun g hg => sets_far6 (by have := (owns_cells hl.row hg).1; omega) _ _ _ _ _ _), fun k hk => (hl.own k hk).keep (fun q hq _ => sets_far6 (by have := hq.1; omega) _ _ _ _ _ _)⟩
end Go.Proofs.Ytkcbhbkldcebiaa

namespace Go.Proofs.Ytkcbhbkldcebiaa
open Go.RowKit Go.Deep

theorem EBox.lt {W : World} {B : Nat} {x y : ByteArray × Int} {v u : Value} (h : EBox W B x v y u) : B < W.heap.size := (Array.getElem?_eq_some_iff.1 h).1
theorem EBox.below {W W' : World} {B : Nat} {x y : ByteArray × Int} {v u : Value} (h : EBox W B x v y u) (hb : Below W.heap.size W W') : EBox W' B x v y u := (hb.block B h.lt).trans h

set_option maxRecDepth 100000 in
set_option maxHeartbeats 1000000 in
theorem catchE_fault (p q : Nat) (e : Int) (at_ : Nat) (x y : Int) (older : List PanicEntry) (w : World) (hpq : p ≠ q) (hp : w.cell? ⟨p, 0, none⟩ = some (.int .i64 x)) (hq : w.cell? ⟨q, 0, none⟩ = some (.int .i64 y)) (fp : w.frozen? ⟨p, 0, none⟩ = false) (fq : w.frozen? ⟨q, 0, none⟩ = false) :
    CallsD Try.prog 59 #[.pointer (some ⟨p, 0, none⟩), .pointer (some ⟨q, 0, none⟩)] (.panicking ({ v := .iface 96 (.agg #[.int .i64 e, .int .i64 at_]), recovered := false } :: older)) w fun r u w' =>
      r = .returned (.tuple #[]) ∧ u = .panicking ({ v := .iface 96 (.agg #[.int .i64 e, .int .i64 at_]), recovered := true } :: older) ∧ w'.cell? ⟨p, 0, none⟩ = some (.int .i64 e) ∧ w'.cell? ⟨q, 0, none⟩ = some (.int .i64 at_) ∧ Fr (fun k => k = p ∨ k = q) w w' := by
  refine callsD_of_wpS Try.func59 rfl fun c₀ cs hu => ?_
  apply wpS_seq
  apply wpS_region
  simp [wpOpsS, go_sem, recoverD, hu, Try.ntmps59, Exit.thenS]
  refine wpS_of_wp ?_
  change Code.wp _ _ _ { tmps := #[.pointer (some ⟨p, 0, none⟩), .pointer (some ⟨q, 0, none⟩), .iface 96 (.agg #[.int .i64 e, .int .i64 at_]), undef, .iface 96 (.agg #[.int .i64 e, .int .i64 at_]), undef, undef, undef, undef, undef, undef, undef, undef], defers := [] } _
  have hta : ∀ (v : Value) (w : World), (Instr.typeAssert (.iface 96 v) 20 96 false).run Try.prog w = .ok v w := fun v w => by kernel_rfl
  have B0 := alloc_below0 w (.cells #[.int .i64 e, .int .i64 at_] 96)
  have C0 : (w.alloc (.cells #[.int .i64 e, .int .i64 at_] 96)).heap[w.heap.size]? = some (.cells #[.int .i64 e, .int .i64 at_] 96 (0, 0)) := World.alloc_heap_new w _
  have k0 : (w.alloc (.cells #[.int .i64 e, .int .i64 at_] 96)).cell? ⟨w.heap.size, 0, none⟩ = some (.int .i64 e) := cell_box C0 rfl
  have k1 : (w.alloc (.cells #[.int .i64 e, .int .i64 at_] 96)).cell? ⟨w.heap.size, 1, none⟩ = some (.int .i64 at_) := cell_box C0 rfl
  have hp' := below_cell B0 _ _ hp; have hq' := below_cell B0 _ _ hq
  have hpl : p < w.heap.size := World.block_lt_of_cell? w _ hp
  have hql : q < w.heap.size := World.block_lt_of_cell? w _ hq
  have fp' : (w.alloc (.cells #[.int .i64 e, .int .i64 at_] 96)).frozen? ⟨p, 0, none⟩ = false := (World.frozen?_of_block (B0.block p hpl)).trans fp
  have fq' : (w.alloc (.cells #[.int .i64 e, .int .i64 at_] 96)).frozen? ⟨q, 0, none⟩ = false := (World.frozen?_of_block (B0.block q hql)).trans fq
  have hqp : ¬ q = p := fun h => hpq h.symm
  have n1 : ¬ w.heap.size = p := by omega
  have n2 : ¬ w.heap.size = q := by omega
  have n3 : ¬ p = w.heap.size := by omega
  have n4 : ¬ q = w.heap.size := by omega
  have FB := hid (Fr.of_below (A := fun k => k = p ∨ k = q) B0)
  clear B0 C0
  go_wp2
  generalize w.alloc (.cells #[.int .i64 e, .int .i64 at_] 96) = V0 at FB k0 k1 hp' hq' fp' fq' ⊢
  go_region
  all_goals
    have E1 : ((V0.setCell ⟨p, 0, none⟩ (.int .i64 e)).setCell ⟨q, 0, none⟩ (.int .i64 at_)).cell? ⟨p, 0, none⟩ = some (.int .i64 e) := (World.cell?_of_block (a := ⟨p, 0, none⟩) (set_far hpq _)).trans (World.cell?_setCell_same _ _ _ hp')
    have E2 : ((V0.setCell ⟨p, 0, none⟩ (.int .i64 e)).setCell ⟨q, 0, none⟩ (.int .i64 at_)).cell? ⟨q, 0, none⟩ = some (.int .i64 at_) := World.cell?_setCell_same _ _ _ ((World.cell?_of_block (a := ⟨q, 0, none⟩) (set_far hqp _)).trans hq')
    have E3 : Fr (fun k => k = p ∨ k = q) w (((V0.setCell ⟨p, 0, none⟩ (.int .i64 e)).setCell ⟨q, 0, none⟩ (.int .i64 at_)).drew) := FB.out.trans ⟨(((Below.refl _ V0).setCell (p := ⟨p, 0, none⟩) (Nat.zero_le _) _).setCell (p := ⟨q, 0, none⟩) (Nat.zero_le _) _).drew, fun k hk hn => (set_far (fun h => hn (.inr h)) _).trans (set_far (fun h => hn (.inl h)) _)⟩
    exact ⟨rfl, _, rfl, _, results_none rfl _ _ _, rfl, rfl, E1, E2, E3⟩

set_option maxRecDepth 100000 in
theorem catchE_none (p q : Nat) (w : World) :
    CallsD Try.prog 59 #[.pointer (some ⟨p, 0, none⟩), .pointer (some ⟨q, 0, none⟩)] .returning w fun r u w' => r = .returned (.tuple #[]) ∧ u = .returning ∧ w' = w := by
  refine callsD_of_wpS Try.func59 rfl fun c₀ cs hu => ?_
  apply wpS_seq
  apply wpS_region
  simp [wpOpsS, go_sem, recoverD, hu, Try.ntmps59, Exit.thenS]
  refine wpS_of_wp ?_
  change Code.wp _ _ _ { tmps := #[.pointer (some ⟨p, 0, none⟩), .pointer (some ⟨q, 0, none⟩), .nilIface, undef, .nilIface, undef, undef, undef, undef, undef, undef, undef, undef], defers := [] } _
  go_wp2
  cases c₀
  simp_all [bodyPostS, results, Try.results59]

/-- The three results' boxes. -/
theorem threeE_new (w : World) : ∃ V, (((w.alloc (.cells #[.string ⟨#[]⟩, .int .i64 0, .slice none 0 0, .string ⟨#[]⟩, .int .i64 0, .slice none 0 0] 35)).alloc (.cells #[.int .i64 0] 29)).alloc (.cells #[.int .i64 0] 3)) = V ∧ (V.cell? ⟨w.heap.size + 1, 0, none⟩ = some (.int .i64 0) ∧ V.frozen? ⟨w.heap.size + 1, 0, none⟩ = false) ∧ (V.cell? ⟨w.heap.size + 1 + 1, 0, none⟩ = some (.int .i64 0) ∧ V.frozen? ⟨w.heap.size + 1 + 1, 0, none⟩ = false) ∧ EBox V w.heap.size (⟨#[]⟩, 0) (.slice none 0 0) (⟨#[]⟩, 0) (.slice none 0 0) ∧ Below w.heap.size w V ∧ V.heap.size = w.heap.size + 3 := by
  have X1 : EBox (w.alloc (.cells #[.string ⟨#[]⟩, .int .i64 0, .slice none 0 0, .string ⟨#[]⟩, .int .i64 0, .slice none 0 0] 35)) w.heap.size (⟨#[]⟩, 0) (.slice none 0 0) (⟨#[]⟩, 0) (.slice none 0 0) := World.alloc_heap_new w _
  have h2 := World.alloc_heap_new (w.alloc (.cells #[.string ⟨#[]⟩, .int .i64 0, .slice none 0 0, .string ⟨#[]⟩, .int .i64 0, .slice none 0 0] 35)) (.cells #[.int .i64 0] 29)
  have h3 := World.alloc_heap_new ((w.alloc (.cells #[.string ⟨#[]⟩, .int .i64 0, .slice none 0 0, .string ⟨#[]⟩, .int .i64 0, .slice none 0 0] 35)).alloc (.cells #[.int .i64 0] 29)) (.cells #[.int .i64 0] 3)
  have b1 := alloc_below0 w (.cells #[.string ⟨#[]⟩, .int .i64 0, .slice none 0 0, .string ⟨#[]⟩, .int .i64 0, .slice none 0 0] 35)
  have b2 := alloc_below0 (w.alloc (.cells #[.string ⟨#[]⟩, .int .i64 0, .slice none 0 0, .string ⟨#[]⟩, .int .i64 0, .slice none 0 0] 35)) (.cells #[.int .i64 0] 29)
  have b3 := alloc_below0 ((w.alloc (.cells #[.string ⟨#[]⟩, .int .i64 0, .slice none 0 0, .string ⟨#[]⟩, .int .i64 0, .slice none 0 0] 35)).alloc (.cells #[.int .i64 0] 29)) (.cells #[.int .i64 0] 3)
  have h2' := (b3.block _ (Nat.lt_of_lt_of_eq (Nat.lt_succ_self _) (World.size_alloc _ _).symm)).trans h2
  rw [World.size_alloc] at h2 h2' h3
  rw [World.size_alloc] at h3
  refine ⟨_, rfl, ⟨cell_box h2' rfl, frozen_box h2'⟩, ⟨cell_box h3 rfl, frozen_box h3⟩, (X1.below b2).below b3, (b1.trans (b2.mono b1.size)).trans (b3.mono (b1.trans (b2.mono b1.size)).size), by rw [World.size_alloc, World.size_alloc, World.size_alloc]⟩
/-- The three results' boxes stand. -/
structure Kept3E (w W : World) : Prop where
  p : W.cell? ⟨w.heap.size + 1, 0, none⟩ = some (.int .i64 0) ∧ W.frozen? ⟨w.heap.size + 1, 0, none⟩ = false
  q : W.cell? ⟨w.heap.size + 1 + 1, 0, none⟩ = some (.int .i64 0) ∧ W.frozen? ⟨w.heap.size + 1 + 1, 0, none⟩ = false
  r : EBox W w.heap.size (⟨#[]⟩, 0) (.slice none 0 0) (⟨#[]⟩, 0) (.slice none 0 0)
  low : Below w.heap.size w W
theorem Kept3E.of {w V W : World} {o : Obj} (h1 : V.cell? ⟨w.heap.size + 1, 0, none⟩ = some (.int .i64 0) ∧ V.frozen? ⟨w.heap.size + 1, 0, none⟩ = false) (h2 : V.cell? ⟨w.heap.size + 1 + 1, 0, none⟩ = some (.int .i64 0) ∧ V.frozen? ⟨w.heap.size + 1 + 1, 0, none⟩ = false) (h3 : EBox V w.heap.size (⟨#[]⟩, 0) (.slice none 0 0) (⟨#[]⟩, 0) (.slice none 0 0)) (h4 : Below w.heap.size w V) (hs : V.heap.size = w.heap.size + 3)
    (B1 : Below V.heap.size V (V.alloc o)) (hW : Below (w.heap.size + 3) (V.alloc o) W) : Kept3E w W := by
  have hb : ∀ k, k < w.heap.size + 3 → W.heap[k]? = V.heap[k]? := fun k hk => (hW.block k hk).trans (B1.block k (by omega))
  exact ⟨⟨(World.cell?_of_block (hb (w.heap.size + 1) (by omega))).trans h1.1, (World.frozen?_of_block (hb (w.heap.size + 1) (by omega))).trans h1.2⟩, ⟨(World.cell?_of_block (hb (w.heap.size + 1 + 1) (by omega))).trans h2.1, (World.frozen?_of_block (hb (w.heap.size + 1 + 1) (by omega))).trans h2.2⟩, (hb _ (by omega)).trans h3, h4.trans ((B1.mono (by omega)).trans (hW.mono (by omega)))⟩
/-- The last statement's stores. -/
theorem eight_sets {w W : World} (h : Kept3E w W) (x y : ByteArray × Int) (v u : Value) :
    EBox ((((((((W.setCell ⟨w.heap.size, 0, none⟩ (.string x.1)).setCell ⟨w.heap.size, 1, none⟩ (.int .i64 x.2)).setCell ⟨w.heap.size, 2, none⟩ v).setCell ⟨w.heap.size, 3, none⟩ (.string y.1)).setCell ⟨w.heap.size, 4, none⟩ (.int .i64 y.2)).setCell ⟨w.heap.size, 5, none⟩ u).setCell ⟨w.heap.size + 1, 0, none⟩ (.int .i64 0)).setCell ⟨w.heap.size + 1 + 1, 0, none⟩ (.int .i64 0)) w.heap.size x v y u ∧ ((((((((W.setCell ⟨w.heap.size, 0, none⟩ (.string x.1)).setCell ⟨w.heap.size, 1, none⟩ (.int .i64 x.2)).setCell ⟨w.heap.size, 2, none⟩ v).setCell ⟨w.heap.size, 3, none⟩ (.string y.1)).setCell ⟨w.heap.size, 4, none⟩ (.int .i64 y.2)).setCell ⟨w.heap.size, 5, none⟩ u).setCell ⟨w.heap.size + 1, 0, none⟩ (.int .i64 0)).setCell ⟨w.heap.size + 1 + 1, 0, none⟩ (.int .i64 0)).cell? ⟨w.heap.size + 1, 0, none⟩ = some (.int .i64 0) ∧ ((((((((W.setCell ⟨w.heap.size, 0, none⟩ (.string x.1)).setCell ⟨w.heap.size, 1, none⟩ (.int .i64 x.2)).setCell ⟨w.heap.size, 2, none⟩ v).setCell ⟨w.heap.size, 3, none⟩ (.string y.1)).setCell ⟨w.heap.size, 4, none⟩ (.int .i64 y.2)).setCell ⟨w.heap.size, 5, none⟩ u).setCell ⟨w.heap.size + 1, 0, none⟩ (.int .i64 0)).setCell ⟨w.heap.size + 1 + 1, 0, none⟩ (.int .i64 0)).cell? ⟨w.heap.size + 1 + 1, 0, none⟩ = some (.int .i64 0) ∧
    (∀ q, w.heap.size + 3 ≤ q → ((((((((W.setCell ⟨w.heap.size, 0, none⟩ (.string x.1)).setCell ⟨w.heap.size, 1, none⟩ (.int .i64 x.2)).setCell ⟨w.heap.size, 2, none⟩ v).setCell ⟨w.heap.size, 3, none⟩ (.string y.1)).setCell ⟨w.heap.size, 4, none⟩ (.int .i64 y.2)).setCell ⟨w.heap.size, 5, none⟩ u).setCell ⟨w.heap.size + 1, 0, none⟩ (.int .i64 0)).setCell ⟨w.heap.size + 1 + 1, 0, none⟩ (.int .i64 0)).heap[q]? = W.heap[q]?) ∧ Below w.heap.size w ((((((((W.setCell ⟨w.heap.size, 0, none⟩ (.string x.1)).setCell ⟨w.heap.size, 1, none⟩ (.int .i64 x.2)).setCell ⟨w.heap.size, 2, none⟩ v).setCell ⟨w.heap.size, 3, none⟩ (.string y.1)).setCell ⟨w.heap.size, 4, none⟩ (.int .i64 y.2)).setCell ⟨w.heap.size, 5, none⟩ u).setCell ⟨w.heap.size + 1, 0, none⟩ (.int .i64 0)).setCell ⟨w.heap.size + 1 + 1, 0, none⟩ (.int .i64 0)) := by
  have a1 := (World.cell?_of_block (a := ⟨w.heap.size + 1, 0, none⟩) (sets_far6 (W := W) (B := w.heap.size) (show w.heap.size + 1 ≠ w.heap.size by omega) (.string x.1) (.int .i64 x.2) v (.string y.1) (.int .i64 y.2) u)).trans h.p.1
  have a2 := (World.cell?_of_block (a := ⟨w.heap.size + 1 + 1, 0, none⟩) (sets_far6 (W := W) (B := w.heap.size) (show w.heap.size + 1 + 1 ≠ w.heap.size by omega) (.string x.1) (.int .i64 x.2) v (.string y.1) (.int .i64 y.2) u)).trans h.q.1
  have a3 := ebox_all h.r x y v u
  have a4 : ∀ q, q ≠ w.heap.size → ((((((W.setCell ⟨w.heap.size, 0, none⟩ (.string x.1)).setCell ⟨w.heap.size, 1, none⟩ (.int .i64 x.2)).setCell ⟨w.heap.size, 2, none⟩ v).setCell ⟨w.heap.size, 3, none⟩ (.string y.1)).setCell ⟨w.heap.size, 4, none⟩ (.int .i64 y.2)).setCell ⟨w.heap.size, 5, none⟩ u).heap[q]? = W.heap[q]? := fun q hq => sets_far6 hq _ _ _ _ _ _
  have a5 : Below w.heap.size w ((((((W.setCell ⟨w.heap.size, 0, none⟩ (.string x.1)).setCell ⟨w.heap.size, 1, none⟩ (.int .i64 x.2)).setCell ⟨w.heap.size, 2, none⟩ v).setCell ⟨w.heap.size, 3, none⟩ (.string y.1)).setCell ⟨w.heap.size, 4, none⟩ (.int .i64 y.2)).setCell ⟨w.heap.size, 5, none⟩ u) := sets_low6 h.low (Nat.le_refl _) _ _ _ _ _ _
  generalize ((((((W.setCell ⟨w.heap.size, 0, none⟩ (.string x.1)).setCell ⟨w.heap.size, 1, none⟩ (.int .i64 x.2)).setCell ⟨w.heap.size, 2, none⟩ v).setCell ⟨w.heap.size, 3, none⟩ (.string y.1)).setCell ⟨w.heap.size, 4, none⟩ (.int .i64 y.2)).setCell ⟨w.heap.size, 5, none⟩ u) = W1 at a1 a2 a3 a4 a5 ⊢
  obtain ⟨b1, b2, b3⟩ := two_sets (show w.heap.size + 1 ≠ w.heap.size + 1 + 1 by omega) a1 a2
  exact ⟨(b3 _ (by omega) (by omega)).trans a3, b1, b2, fun q hq => (b3 q (by omega) (by omega)).trans (a4 q (by omega)), set_low (set_low a5 (by omega) _) (by omega) _⟩
theorem load_eq {w : World} {B : Nat} {x y : ByteArray × Int} {v u : Value} (h : EBox w B x v y u) : (loadVar 35 ⟨B, 0, none⟩).run Try.prog w = .ok (.agg #[.string x.1, .int .i64 x.2, v, .string y.1, .int .i64 y.2, u]) w :=
  run_loadVar_row w B 35 35 _ (0, 0) _ h Try.underlying35 rfl (by kernel_rfl)
/-- What text and signature are read as: the equation; or what is wrong, and where. -/
def fullE (s : ByteArray) (l : List Sym) : Except (Int × Nat) (Tn × Tn) := if 800 < s.size then .error (55, 0) else match eqC s l 0 with
  | .error e => .error e
  | .ok (t, u, k) => match endR s k with
    | .error e => .error e
    | .ok _ => if chk l t.1 t.2 = 0 then (if chk l u.1 u.2 = 0 then .ok (t, u) else .error (chk l u.1 u.2, 0)) else .error (chk l t.1 t.2, 0)
/-- How Equation ends. -/
def FullEEnd (w : World) (res : Except (Int × Nat) (Tn × Tn)) (e : Ending) (w' : World) : Prop := (match res with
    | .error q => e = .returned (.tuple #[.agg #[.string ⟨#[]⟩, .int .i64 0, .slice none 0 0, .string ⟨#[]⟩, .int .i64 0, .slice none 0 0], .int .i64 q.1, .int .i64 q.2])
    | .ok (t, u) => ∃ a c b d, e = .returned (.tuple #[.agg #[.string t.1.1, .int .i64 t.1.2, .slice a (lenF t.2) c, .string u.1.1, .int .i64 u.1.2, .slice b (lenF u.2) d], .int .i64 0, .int .i64 0]) ∧ OwnTm false (fun q => w.heap.size ≤ q) w' t.1 a c t.2 ∧ OwnTm false (fun q => w.heap.size ≤ q) w' u.1 b d u.2) ∧ Below w.heap.size w w'

set_option maxRecDepth 100000 in
set_option maxHeartbeats 4000000 in
theorem readE_long (S : Option Addr) (n cap : Nat) (s : ByteArray) (w : World) (hs : 800 < s.size) :
    Calls Try.prog 37 #[.slice S n cap, .string s, .func (.func 38) #[] #[]] w fun e w' => e = .returned (.tuple #[.agg #[.string ⟨#[]⟩, .int .i64 0, .slice none 0 0, .string ⟨#[]⟩, .int .i64 0, .slice none 0 0], .int .i64 55, .int .i64 0]) ∧ Below w.heap.size w w' := by
  have hmf : ∀ (fn : Fn) (first cap : Array Value) (w : World), (Instr.makeFunc fn first cap).run Try.prog w = .ok (.func fn first cap) w := fun _ _ _ _ => rfl
  have hs' : (800 : Int) < s.size := by omega
  go_enter_defers Try.func37, Try.ntmps37
  go_wp2
  obtain ⟨V, hV, hV1, hV2, hVz, hVl, hVs⟩ := threeE_new w
  rw [hV]
  refine door_fault (at_ := 0) rfl rfl rfl rfl (by simp [go_sem]) (catchE_fault _ _ 55 0 0 0 [] _ (by omega) hV1.1 hV2.1 hV1.2 hV2.2) (fun W' h => load_eq (h.trans hVz)) (by omega) (by omega) (Array.getElem?_eq_some_iff.1 hVz).1 (fun W' hf => ⟨rfl, ?_⟩)
  exact hVl.trans (hf.below (fun k hk => by omega) hVl.size)

set_option maxRecDepth 100000 in
set_option maxHeartbeats 4000000 in
theorem read_eq (S : Option Addr) (n cap : Nat) (l : List Sym) (s : ByteArray) (w : World) (hs : s.size ≤ 800) (hS : SigAt w S n l) :
    Calls Try.prog 37 #[.slice S n cap, .string s, .func (.func 38) #[] #[]] w fun e w' => FullEEnd w (fullE s l) e w' := by
  have hmf : ∀ (fn : Fn) (first cap : Array Value) (w : World), (Instr.makeFunc fn first cap).run Try.prog w = .ok (.func fn first cap) w := fun _ _ _ _ => rfl
  have hs' : ¬ (800 : Int) < s.size := by omega
  obtain ⟨V, hV, hV1, hV2, hVz, hVl, hVs⟩ := threeE_new w
  have B1 := alloc_below0 V (.cells #[.slice S n cap, .string s, .int .i64 0, .slice none 0 0] 98)
  have LV := hid (hVl.trans (B1.mono hVl.size))
  have R0 : RdBox (V.alloc (.cells #[.slice S n cap, .string s, .int .i64 0, .slice none 0 0] 98)) V.heap.size (.slice S n cap) s 0 (.slice none 0 0) := World.alloc_heap_new V _
  rw [hVs] at R0
  have hc := eq_rd (w0 := w) (B := w.heap.size + 3) (cap := cap) (by omega) hs hS (V.alloc (.cells #[.slice S n cap, .string s, .int .i64 0, .slice none 0 0] 98)) R0 LV.out
  have HC := hid hc
  have KE : Hid (∀ W, Below (w.heap.size + 3) (V.alloc (.cells #[.slice S n cap, .string s, .int .i64 0, .slice none 0 0] 98)) W → Kept3E w W) := hid fun W hW => Kept3E.of hV1 hV2 hVz hVl hVs B1 hW
  have hVa : Hid ((V.alloc (.cells #[.slice S n cap, .string s, .int .i64 0, .slice none 0 0] 98)).heap.size = w.heap.size + 4) := by show _ = _; rw [World.size_alloc, hVs]
  have HS := hid hS
  have hsm : s.size ≤ maxLen := by unfold maxLen; omega
  clear hc R0 B1 hV1 hV2 hVz hVl hS
  obtain ⟨res, hres⟩ : ∃ res, fullE s l = res := ⟨_, rfl⟩
  rw [hres]
  unfold fullE at hres
  rw [if_neg (by omega)] at hres
  have HRS := hid hres
  clear hres
  go_enter_defers Try.func37, Try.ntmps37
  go_wp2_with fail
  clear hV
  generalize V.alloc (.cells #[.slice S n cap, .string s, .int .i64 0, .slice none 0 0] 98) = V1 at LV HC KE hVa ⊢
  have hc := HC.out
  have hres := HRS.out
  unfold EqEnd at hc
  cases hr : eqC s l 0 with
  | error q =>
    rw [hr] at hc hres
    dsimp only at hc hres
    unfold faultP at hc
    refine hc.mono ?_
    rintro e w2 ⟨rfl, hb2⟩
    have K2 := hid (KE.out w2 hb2)
    have HR := hid hres
    clear hc hres hb2
    go_wp2
    refine door_fault rfl rfl rfl rfl (by simp [go_sem]) (catchE_fault _ _ q.1 q.2 0 0 [] _ (by omega) K2.out.p.1 K2.out.q.1 K2.out.p.2 K2.out.q.2) (fun W' h => load_eq (h.trans K2.out.r)) (by omega) (by omega) (Array.getElem?_eq_some_iff.1 K2.out.r).1 (fun W' hf => ?_)
    rw [← HR.out]
    exact ⟨rfl, K2.out.low.trans (hf.below (fun k hk => by omega) K2.out.low.size)⟩
  | ok qq =>
    obtain ⟨t1, t2, k'⟩ := qq
    rw [hr] at hc hres
    dsimp only at hc hres
    refine hc.mono ?_
    rintro e w2 ⟨⟨⟨x, m, ta, tc⟩, ⟨y, u, ua, uc⟩, tv, rfl, rfl, rfl, hrb2, hls2, hk'⟩, hb2⟩
    unfold Kv.tn at hres
    dsimp only at hres ⊢
    have hsz2 := hb2.size
    rw [hVa.out] at hsz2 hls2
    have B2 := alloc_below0 w2 (.cells #[.string x.1, .int .i64 x.2, .slice ta (lenF m) tc, .string y.1, .int .i64 y.2, .slice ua (lenF u) uc] 35)
    have X2 : Hid (EBox (w2.alloc (.cells #[.string x.1, .int .i64 x.2, .slice ta (lenF m) tc, .string y.1, .int .i64 y.2, .slice ua (lenF u) uc] 35)) w2.heap.size x (.slice ta (lenF m) tc) y (.slice ua (lenF u) uc)) := World.alloc_heap_new w2 _
    have R2 := hid (hrb2.below B2)
    have L2 := hid (hls2.below B2)
    have K2 : Hid (∀ W, Below (w2.alloc (.cells #[.string x.1, .int .i64 x.2, .slice ta (lenF m) tc, .string y.1, .int .i64 y.2, .slice ua (lenF u) uc] 35)).heap.size (w2.alloc (.cells #[.string x.1, .int .i64 x.2, .slice ta (lenF m) tc, .string y.1, .int .i64 y.2, .slice ua (lenF u) uc] 35)) W → Kept3E w W) := hid fun W hW => KE.out W (hb2.trans ((B2.mono (by omega)).trans (hW.mono (by rw [World.size_alloc]; omega))))
    have hs2 : Hid ((w2.alloc (.cells #[.string x.1, .int .i64 x.2, .slice ta (lenF m) tc, .string y.1, .int .i64 y.2, .slice ua (lenF u) uc] 35)).heap.size = w2.heap.size + 1) := by show _ = _; rw [World.size_alloc]
    have HRS2 := hid hres
    clear hc hres hb2 hrb2 hls2 B2 HC KE HRS
    go_wp2_with fail
    generalize w2.alloc (.cells #[.string x.1, .int .i64 x.2, .slice ta (lenF m) tc, .string y.1, .int .i64 y.2, .slice ua (lenF u) uc] 35) = V2 at X2 R2 L2 K2 hs2 ⊢
    have he := end_rd (w.heap.size + 3) (.slice S n cap) tv s k' V2 R2.out hsm hk'
    cases hen : endR s k' with
    | error q =>
      have hres := HRS2.out
      rw [hen] at he hres
      dsimp only at he hres
      unfold faultP at he
      refine he.mono ?_
      rintro e w3 ⟨rfl, hb3⟩
      have K3 := hid (K2.out w3 hb3)
      have HR := hid hres
      clear he hres hb3
      go_wp2
      refine door_fault rfl rfl rfl rfl (by simp [go_sem]) (catchE_fault _ _ q.1 q.2 0 0 [] _ (by omega) K3.out.p.1 K3.out.q.1 K3.out.p.2 K3.out.q.2) (fun W' h => load_eq (h.trans K3.out.r)) (by omega) (by omega) (Array.getElem?_eq_some_iff.1 K3.out.r).1 (fun W' hf => ?_)
      rw [← HR.out]
      exact ⟨rfl, K3.out.low.trans (hf.below (fun k hk => by omega) K3.out.low.size)⟩
    | ok q =>
      have hres := HRS2.out
      rw [hen] at he hres
      dsimp only at he hres
      refine he.mono ?_
      rintro e w3 ⟨rfl, hb3⟩
      have K3 : Hid (∀ W, Below w3.heap.size w3 W → Kept3E w W) := hid fun W hW => K2.out W (hb3.trans (hW.mono hb3.size))
      have X3 : Hid (EBox w3 w2.heap.size x (.slice ta (lenF m) tc) y (.slice ua (lenF u) uc)) := hid ((hb3.block _ (by have := hs2.out; omega)).trans X2.out)
      have R3 := R2.out.below hb3
      have L3 := hid (L2.out.below hb3)
      have HR := hid hres
      have hs3 : w2.heap.size + 1 ≤ w3.heap.size := by have := hb3.size; rw [hs2.out] at this; exact this
      obtain ⟨ra, rc, hrv, _, _, hrow, _, _⟩ := row_of_owns L3.out.row
      subst hrv
      have hcc := check_rd (w.heap.size + 3) S n cap l s k' [⟨x, m, ta, tc⟩, ⟨y, u, ua, uc⟩] ra rc w3 R3 (HS.out.below (K3.out w3 (Below.refl _ _)).low) hrow (by simp) (fun k hk => (L3.out.own k hk).tm)
      clear he hres hb3 hrow R3
      go_wp2_with fail
      obtain ⟨fe, hfe⟩ : ∃ fe, firstE l [⟨x, m, ta, tc⟩, ⟨y, u, ua, uc⟩] = fe := ⟨_, rfl⟩
      have hff : res = (if fe = 0 then .ok ((x, m), (y, u)) else .error (fe, 0)) := by
        have h := HR.out
        unfold firstE firstE firstE at hfe
        by_cases h1 : chk l x m = 0
        · by_cases h2 : chk l y u = 0
          · rw [if_pos h1, if_pos h2] at h
            rw [if_pos h1, if_pos h2] at hfe
            subst hfe
            rw [if_pos rfl, h]
          · rw [if_pos h1, if_neg h2] at h
            rw [if_pos h1, if_neg h2] at hfe
            subst hfe
            rw [if_neg h2, h]
        · rw [if_neg h1] at h
          rw [if_neg h1] at hfe
          subst hfe
          rw [if_neg h1, h]
      rw [hfe] at hcc
      have HFF := hid hff
      clear hfe hff HR
      by_cases hch : fe = 0
      · refine hcc.mono ?_
        rintro e w4 ⟨he4, hb4⟩
        rw [if_pos hch] at he4
        subst he4
        have K4 := K3.out w4 hb4
        have X4 : EBox w4 w2.heap.size x (.slice ta (lenF m) tc) y (.slice ua (lenF u) uc) := (hb4.block _ (by omega)).trans X3.out
        have O4 : OwnTm false (fun q => w.heap.size + 5 ≤ q) w4 x ta tc m := ((L3.out.own _ (List.mem_cons_self ..)).mono (fun q _ hq => by have := hq.1; omega)).below hb4
        have P4 : OwnTm false (fun q => w.heap.size + 5 ≤ q) w4 y ua uc u := ((L3.out.own _ (List.mem_cons_of_mem _ (List.mem_singleton.2 rfl))).mono (fun q _ hq => by have := hq.1; omega)).below hb4
        have p0 := K4.p.1; have p1 := K4.p.2; have q0 := K4.q.1; have q1 := K4.q.2
        have r0 := K4.r.c 0; have r1 := K4.r.c 1; have r2 := K4.r.c 2; have r3 := K4.r.c 3; have r4 := K4.r.c 4; have r5 := K4.r.c 5
        have z0 := K4.r.f 0; have z1 := K4.r.f 1; have z2 := K4.r.f 2; have z3 := K4.r.f 3; have z4 := K4.r.f 4; have z5 := K4.r.f 5
        have x0 := X4.c 0; have x1 := X4.c 1; have x2 := X4.c 2; have x3 := X4.c 3; have x4 := X4.c 4; have x5 := X4.c 5
        have hs4 := hb4.size
        have HK4 := hid K4; have HO4 := hid O4; have HP4 := hid P4
        have n1 : ¬ w.heap.size = w2.heap.size := by omega
        clear hcc K4 X4 O4 P4 hb4
        go_wp2
        obtain ⟨e1, e2, e3, e4, e5⟩ := eight_sets HK4.out x y (.slice ta (lenF m) tc) (.slice ua (lenF u) uc)
        refine door_done rfl rfl rfl rfl (by simp [go_sem]) (catchE_none _ _ _) (load_eq e1) e2 e3 ?_
        have hres := HFF.out
        rw [if_pos hch] at hres
        rw [hres]
        exact ⟨⟨ta, tc, ua, uc, rfl, (HO4.out.keep (fun q hq _ => e4 q (by omega))).mono (fun q _ hq => by omega), (HP4.out.keep (fun q hq _ => e4 q (by omega))).mono (fun q _ hq => by omega)⟩, e5⟩
      · refine hcc.mono ?_
        rintro e w4 ⟨he4, hb4⟩
        rw [if_neg hch] at he4
        unfold faultP at he4
        subst he4
        have K4 := hid (K3.out w4 hb4)
        clear hcc hb4
        go_wp2
        refine door_fault rfl rfl rfl rfl (by simp [go_sem]) (catchE_fault _ _ fe 0 0 0 [] _ (by omega) K4.out.p.1 K4.out.q.1 K4.out.p.2 K4.out.q.2) (fun W' h => load_eq (h.trans K4.out.r)) (by omega) (by omega) (Array.getElem?_eq_some_iff.1 K4.out.r).1 (fun W' hf => ?_)
        have hres := HFF.out
        rw [if_neg hch] at hres
        rw [hres]
        exact ⟨rfl, K4.out.low.trans (hf.below (fun k hk => by omega) K4.out.low.size)⟩
theorem readE_all (S : Option Addr) (n cap : Nat) (l : List Sym) (s : ByteArray) (w : World) (hS : SigAt w S n l) :
    Calls Try.prog 37 #[.slice S n cap, .string s, .func (.func 38) #[] #[]] w fun e w' => FullEEnd w (fullE s l) e w' := by
  by_cases hs : s.size ≤ 800
  · exact read_eq S n cap l s w hs hS
  · refine (readE_long S n cap s w (by omega)).mono ?_
    rintro e w' ⟨rfl, hb⟩
    have : fullE s l = .error (55, 0) := by unfold fullE; rw [if_pos (by omega)]
    rw [this]
    exact ⟨rfl, hb⟩
theorem ret_eq3 {fn : Func} {R : Ending → World → Prop} {a : Act} {w : World} {B : Nat} {x y : ByteArray × Int} {v u : Value} (h : fn.results = #[.cell 4 35, .tmp 5, .tmp 6]) (h4 : a.tmps.getD 4 undef = .pointer (some ⟨B, 0, none⟩))
    (hx : EBox w B x v y u) (hd : a.defers = []) (hR : R (.returned (.tuple #[.agg #[.string x.1, .int .i64 x.2, v, .string y.1, .int .i64 y.2, u], a.tmps.getD 5 undef, a.tmps.getD 6 undef])) w) : bodyPost Try.prog fn R .ret a w := by
  refine bodyPost_ret ?_ hd hR
  rw [results_cell2 h, h4]
  rw [show (asAddr (.pointer (some ⟨B, 0, none⟩))).run Try.prog w = .ok ⟨B, 0, none⟩ w from rfl]
  simp only [Result.andThen_ok, load_eq hx]
set_option maxRecDepth 100000 in
set_option maxHeartbeats 4000000 in
/-- Equation of a text. -/
theorem equation_any (S : Option Addr) (n cap : Nat) (l : List Sym) (s : ByteArray) (w : World) (hS : SigAt w S n l) :
    Calls Try.prog 13 #[.slice S n cap, .string s] w fun e w' => FullEEnd w (fullE s l) e w' := by
  have B0 := alloc_below0 w (.cells #[.string ⟨#[]⟩, .int .i64 0, .slice none 0 0, .string ⟨#[]⟩, .int .i64 0, .slice none 0 0] 35)
  have X0 : EBox (w.alloc (.cells #[.string ⟨#[]⟩, .int .i64 0, .slice none 0 0, .string ⟨#[]⟩, .int .i64 0, .slice none 0 0] 35)) w.heap.size (⟨#[]⟩, 0) (.slice none 0 0) (⟨#[]⟩, 0) (.slice none 0 0) := World.alloc_heap_new w _
  have hc := readE_all S n cap l s _ (hS.below B0)
  have HX := hid X0; have HB := hid B0; have HC := hid hc
  clear hc B0 X0 hS
  obtain ⟨res, hres⟩ : ∃ res, fullE s l = res := ⟨_, rfl⟩
  rw [hres] at HC ⊢
  clear hres
  go_enter Try.func13, Try.ntmps13
  go_wp2_with fail
  generalize w.alloc (.cells #[.string ⟨#[]⟩, .int .i64 0, .slice none 0 0, .string ⟨#[]⟩, .int .i64 0, .slice none 0 0] 35) = V0 at HX HB HC ⊢
  have hw0 := HX.out.lt
  have hc := HC.out
  unfold FullEEnd at hc
  cases res with
  | error q =>
    dsimp only at hc
    refine hc.mono ?_
    rintro e w1 ⟨rfl, hb⟩
    have X1 := HX.out.below hb
    have r0 := X1.c 0; have r1 := X1.c 1; have r2 := X1.c 2; have r3 := X1.c 3; have r4 := X1.c 4; have r5 := X1.c 5
    have z0 := X1.f 0; have z1 := X1.f 1; have z2 := X1.f 2; have z3 := X1.f 3; have z4 := X1.f 4; have z5 := X1.f 5
    have H1 := hid X1
    have L1 := hid (HB.out.trans (hb.mono HB.out.size))
    clear hc hb X1
    go_wp2
    refine ret_eq3 rfl rfl (ebox_all H1.out (⟨#[]⟩, 0) (⟨#[]⟩, 0) (.slice none 0 0) (.slice none 0 0)) rfl ?_
    exact ⟨rfl, sets_low6 L1.out (Nat.le_refl _) _ _ _ _ _ _⟩
  | ok tt =>
    obtain ⟨⟨x, m⟩, ⟨y, u⟩⟩ := tt
    dsimp only at hc
    refine hc.mono ?_
    rintro e w1 ⟨⟨ta, tc, ua, uc, rfl, ho, hp⟩, hb⟩
    have X1 := HX.out.below hb
    have r0 := X1.c 0; have r1 := X1.c 1; have r2 := X1.c 2; have r3 := X1.c 3; have r4 := X1.c 4; have r5 := X1.c 5
    have z0 := X1.f 0; have z1 := X1.f 1; have z2 := X1.f 2; have z3 := X1.f 3; have z4 := X1.f 4; have z5 := X1.f 5
    have H1 := hid X1
    have HO := hid ho; have HP := hid hp
    have L1 := hid (HB.out.trans (hb.mono HB.out.size))
    clear hc hb X1 ho hp
    go_wp2
    refine ret_eq3 rfl rfl (ebox_all H1.out x y (.slice ta (lenF m) tc) (.slice ua (lenF u) uc)) rfl ?_
    exact ⟨⟨ta, tc, ua, uc, rfl, (HO.out.keep (fun q hq _ => sets_far6 (by omega) _ _ _ _ _ _)).mono (fun q _ hq => by omega), (HP.out.keep (fun q hq _ => sets_far6 (by omega) _ _ _ _ _ _)).mono (fun q _ hq => by omega)⟩, sets_low6 L1.out (Nat.le_refl _) _ _ _ _ _ _⟩
end Go.Proofs.Ytkcbhbkldcebiaa

namespace Go.Proofs.Ytkcbhbkldcebiaa
open Go.RowKit Go.Deep

/-- The error behind want. -/
def wantE (s : ByteArray) (wk : Int) (wp : Nat) (kd e1 : Int) (p1 : Nat) : Int × Nat := if e1 = 0 then (if wk = 0 then (51, s.size) else if wk = kd then (0, p1) else (52, wp)) else (e1, p1)
set_option maxRecDepth 100000 in
set_option maxHeartbeats 4000000 in
theorem want_of (B : Nat) (sg : Value) (s : ByteArray) (kd : Int) (wt : ByteArray) (wk : Int) (wp k1 p1 : Nat) (e1 : Int) (w : World) (hBw : B < w.heap.size)
    (hc : ∀ W, Below w.heap.size w W → Calls Try.prog 43 #[.pointer (some ⟨B, 0, none⟩)] W fun e w' => e = .returned (.agg #[.int .i64 wk, .string wt, .int .i64 wp]) ∧ RfBox w' B sg s k1 e1 p1 ∧ FrB B W w') :
    Calls Try.prog 39 #[.pointer (some ⟨B, 0, none⟩), .int .i64 kd] w fun e w' => e = .returned (.agg #[.int .i64 wk, .string wt, .int .i64 wp]) ∧ RfBox w' B sg s k1 (wantE s wk wp kd e1 p1).1 (wantE s wk wp kd e1 p1).2 ∧ FrB B w w' := by
  have B0 := alloc_below0 w (.cells #[.int .i64 0, .string ⟨#[]⟩, .int .i64 0] 71)
  have Z0 : Hid (WdBox (w.alloc (.cells #[.int .i64 0, .string ⟨#[]⟩, .int .i64 0] 71)) w.heap.size noWd) := World.alloc_heap_new w _
  have HC := hid (hc _ B0)
  have HB := hid B0
  obtain ⟨o, ho⟩ : ∃ o, wantE s wk wp kd e1 p1 = o := ⟨_, rfl⟩
  have HO := hid ho
  rw [ho]
  clear hc B0 ho
  go_enter Try.func39, Try.ntmps39
  go_wp2_with fail
  generalize w.alloc (.cells #[.int .i64 0, .string ⟨#[]⟩, .int .i64 0] 71) = V0 at Z0 HB HC ⊢
  refine HC.out.mono ?_
  rintro e w1 ⟨rfl, hrb, hf1⟩
  have hz1 := hf1.low.size
  have hzV := Z0.out.ltB
  have B1 := alloc_below0 w1 (.cells #[.int .i64 wk, .string wt, .int .i64 wp] 71)
  have R1 := hid (hrb.below B1)
  have W1 : Hid (WdBox (w1.alloc (.cells #[.int .i64 wk, .string wt, .int .i64 wp] 71)) w1.heap.size ⟨wk, wt, wp⟩) := World.alloc_heap_new w1 _
  have Z1 : Hid (WdBox (w1.alloc (.cells #[.int .i64 wk, .string wt, .int .i64 wp] 71)) w.heap.size noWd) := hid (WdBox.later ((hf1.same _ hzV (by omega)).trans Z0.out) B1)
  have F1 : Hid (FrB B w (w1.alloc (.cells #[.int .i64 wk, .string wt, .int .i64 wp] 71))) := hid (((Fr.of_below HB.out).trans hf1).trans (Fr.of_below B1))
  have hzW : (w1.alloc (.cells #[.int .i64 wk, .string wt, .int .i64 wp] 71)).heap.size = w1.heap.size + 1 := World.size_alloc _ _
  clear hrb hf1 B1 HC Z0
  have FIN : ∀ (W : World) (e2 : Int) (p2 : Nat), RfBox W B sg s k1 e2 p2 → WdBox W w.heap.size noWd → FrB B w W → (e2, p2) = o → (RfBox (((W.setCell ⟨w.heap.size, 0, none⟩ (.int .i64 wk)).setCell ⟨w.heap.size, 1, none⟩ (.string wt)).setCell ⟨w.heap.size, 2, none⟩ (.int .i64 wp)) B sg s k1 o.1 o.2 ∧ WdBox (((W.setCell ⟨w.heap.size, 0, none⟩ (.int .i64 wk)).setCell ⟨w.heap.size, 1, none⟩ (.string wt)).setCell ⟨w.heap.size, 2, none⟩ (.int .i64 wp)) w.heap.size ⟨wk, wt, wp⟩ ∧ FrB B w (((W.setCell ⟨w.heap.size, 0, none⟩ (.int .i64 wk)).setCell ⟨w.heap.size, 1, none⟩ (.string wt)).setCell ⟨w.heap.size, 2, none⟩ (.int .i64 wp))) := by
    intro W e2 p2 h1 h2 h3 h4
    subst h4
    exact ⟨(sets_far (by omega) _ _ _).trans h1, WdBox.all (y := noWd) h2 ⟨wk, wt, wp⟩, frB_sets h3 (Nat.le_refl _) _ _ _⟩
  have HFIN := hid FIN
  clear FIN
  have c3 := R1.out.c3; have c1 := R1.out.c1
  have y0 := W1.out.k0; have y1 := W1.out.k1; have y2 := W1.out.k2
  have r0 := Z1.out.k0; have r1 := Z1.out.k1; have r2 := Z1.out.k2
  have z0 := Z1.out.fz (i := 0); have z1 := Z1.out.fz (i := 1); have z2 := Z1.out.fz (i := 2)
  have n1 : ¬ w.heap.size = w1.heap.size := by omega
  by_cases he : e1 = 0
  · subst he
    have ho := HO.out
    unfold wantE at ho
    rw [if_pos rfl] at ho
    by_cases hk0 : wk = 0
    · subst hk0
      rw [if_pos rfl] at ho
      have HO2 := hid ho
      clear ho HO
      go_wp2_with fail
      generalize w1.alloc (.cells #[.int .i64 0, .string wt, .int .i64 wp] 71) = V1 at R1 W1 Z1 F1 hzW c1 c3 y0 y1 y2 r0 r1 r2 z0 z1 z2 ⊢
      refine (fails_rf B sg s k1 p1 0 51 s.size V1 R1.out).mono ?_
      rintro e w2 ⟨rfl, hrb2, hf2⟩
      rw [if_pos rfl, if_pos rfl] at hrb2
      have hz2 := hf2.low.size
      have W2 : WdBox w2 w1.heap.size ⟨0, wt, wp⟩ := (hf2.same _ (by omega) (by omega)).trans W1.out
      have Z2 : WdBox w2 w.heap.size noWd := (hf2.same _ (by omega) (by omega)).trans Z1.out
      have F2 := hid (F1.out.trans hf2)
      have R2 := hid hrb2; have HZ2 := hid Z2
      have d3 := hrb2.c3
      have a0 := W2.k0; have a1 := W2.k1; have a2 := W2.k2
      have b0 := Z2.k0; have b1 := Z2.k1; have b2 := Z2.k2
      have g0 := Z2.fz (i := 0); have g1 := Z2.fz (i := 1); have g2 := Z2.fz (i := 2)
      clear hrb2 hf2 W2 Z2 c1 c3 y0 y1 y2 r0 r1 r2 z0 z1 z2
      go_wp2
      obtain ⟨q1, q2, q3⟩ := HFIN.out w2 51 s.size R2.out HZ2.out F2.out HO2.out
      refine ret_wd rfl rfl q2 rfl ?_
      exact ⟨rfl, q1, q3⟩
    · have hk0b : (wk == 0) = false := by simpa using hk0
      rw [if_neg hk0] at ho
      by_cases hkd : wk = kd
      · subst hkd
        rw [if_pos rfl] at ho
        have HO2 := hid ho
        clear ho HO
        go_wp2
        obtain ⟨q1, q2, q3⟩ := HFIN.out _ 0 p1 R1.out Z1.out F1.out HO2.out
        refine ret_wd rfl rfl q2 rfl ?_
        exact ⟨rfl, q1, q3⟩
      · rw [if_neg hkd] at ho
        have hkb : (wk != kd) = true := by simpa using hkd
        have HO2 := hid ho
        clear ho HO
        go_wp2_with fail
        generalize w1.alloc (.cells #[.int .i64 wk, .string wt, .int .i64 wp] 71) = V1 at R1 W1 Z1 F1 hzW c1 c3 y0 y1 y2 r0 r1 r2 z0 z1 z2 ⊢
        refine (fails_rf B sg s k1 p1 0 52 wp V1 R1.out).mono ?_
        rintro e w2 ⟨rfl, hrb2, hf2⟩
        rw [if_pos rfl, if_pos rfl] at hrb2
        have hz2 := hf2.low.size
        have W2 : WdBox w2 w1.heap.size ⟨wk, wt, wp⟩ := (hf2.same _ (by omega) (by omega)).trans W1.out
        have Z2 : WdBox w2 w.heap.size noWd := (hf2.same _ (by omega) (by omega)).trans Z1.out
        have F2 := hid (F1.out.trans hf2)
        have R2 := hid hrb2; have HZ2 := hid Z2
        have a0 := W2.k0; have a1 := W2.k1; have a2 := W2.k2
        have b0 := Z2.k0; have b1 := Z2.k1; have b2 := Z2.k2
        have g0 := Z2.fz (i := 0); have g1 := Z2.fz (i := 1); have g2 := Z2.fz (i := 2)
        clear hrb2 hf2 W2 Z2 c1 c3 y0 y1 y2 r0 r1 r2 z0 z1 z2
        go_wp2
        obtain ⟨q1, q2, q3⟩ := HFIN.out w2 52 wp R2.out HZ2.out F2.out HO2.out
        refine ret_wd rfl rfl q2 rfl ?_
        exact ⟨rfl, q1, q3⟩
  · have hne : (e1 == 0) = false := by simpa using he
    have ho := HO.out
    unfold wantE at ho
    rw [if_neg he] at ho
    have HO2 := hid ho
    clear ho HO
    go_wp2
    obtain ⟨q1, q2, q3⟩ := HFIN.out _ e1 p1 R1.out Z1.out F1.out HO2.out
    refine ret_wd rfl rfl q2 rfl ?_
    exact ⟨rfl, q1, q3⟩

/-- What want does: behind an error nothing. -/
def WantEnd (B : Nat) (sg : Value) (s : ByteArray) (k : Nat) (kd er : Int) (p : Nat) (w : World) (e : Ending) (w' : World) : Prop :=
  ∃ (wk : Int) (wt : ByteArray) (wp k' : Nat) (e2 : Int) (p2 : Nat), e = .returned (.agg #[.int .i64 wk, .string wt, .int .i64 wp]) ∧ RfBox w' B sg s k' e2 p2 ∧ FrB B w w' ∧ ((er ≠ 0 ∧ e2 = er ∧ p2 = p) ∨ (er = 0 ∧ match wantP s k kd with | .error q => e2 = q.1 ∧ p2 = q.2 ∧ e2 ≠ 0 | .ok r => e2 = 0 ∧ p2 = p ∧ k' = r.to ∧ wt = r.word.text ∧ k' ≤ s.size))
theorem want_rf (B : Nat) (sg : Value) (s : ByteArray) (k p : Nat) (kd er : Int) (w : World) (hB : RfBox w B sg s k er p) (hs : s.size ≤ maxLen) (hk : er = 0 → k ≤ s.size) :
    Calls Try.prog 39 #[.pointer (some ⟨B, 0, none⟩), .int .i64 kd] w fun e w' => WantEnd B sg s k kd er p w e w' := by
  by_cases he : er = 0
  · subst he
    have hk' := hk rfl
    have hc : ∀ W, Below w.heap.size w W → _ := fun W hW => word_rf B sg s k p 0 W (hB.below hW) hs hk'
    unfold wordF at hc
    rw [if_pos rfl] at hc
    have hto := nx_to (s := s) (k := k) hk'
    unfold WantEnd
    unfold wantP nextP lookP
    obtain ⟨r, hr⟩ : ∃ r, nx s k = r := ⟨_, rfl⟩
    rw [hr] at hc hto ⊢
    obtain ⟨⟨wk, wt, wp⟩, te, e0⟩ := r
    dsimp only at hc hto ⊢
    by_cases h0 : e0 = 0
    · rw [if_pos h0] at hc ⊢
      dsimp only at hc ⊢
      refine (want_of B sg s kd wt wk wp _ _ _ w hB.lt hc).mono ?_
      rintro e w' ⟨rfl, h1, h2⟩
      refine ⟨wk, wt, wp, _, _, _, rfl, h1, h2, .inr ⟨rfl, ?_⟩⟩
      unfold wantE
      rw [if_pos rfl]
      by_cases hk0 : wk = 0
      · rw [if_pos hk0]
        rw [if_pos hk0]
        exact ⟨rfl, rfl, show (51 : Int) ≠ 0 by decide⟩
      · rw [if_neg hk0]
        dsimp only
        rw [if_neg hk0]
        by_cases hkk : wk = kd
        · rw [if_pos hkk, if_pos hkk]
          exact ⟨rfl, rfl, by rw [if_neg hk0], rfl, by rw [if_neg hk0]; exact (hto hk0).2⟩
        · rw [if_neg hkk, if_neg hkk]
          exact ⟨rfl, rfl, show (52 : Int) ≠ 0 by decide⟩
    · rw [if_neg h0] at hc ⊢
      dsimp only at hc ⊢
      refine (want_of B sg s kd _ _ _ _ _ _ w hB.lt hc).mono ?_
      rintro e w' ⟨rfl, h1, h2⟩
      refine ⟨_, _, _, _, _, _, rfl, h1, h2, .inr ⟨rfl, ?_⟩⟩
      unfold wantE
      rw [if_neg h0]
      exact ⟨rfl, rfl, h0⟩
  · have hc : ∀ W, Below w.heap.size w W → _ := fun W hW => word_err B sg s k p er W (hB.below hW) he
    refine (want_of B sg s kd _ _ _ _ _ _ w hB.lt hc).mono ?_
    rintro e w' ⟨rfl, h1, h2⟩
    refine ⟨_, _, _, _, _, _, rfl, h1, h2, .inl ⟨he, ?_⟩⟩
    unfold wantE
    rw [if_neg he]
    exact ⟨rfl, rfl⟩
end Go.Proofs.Ytkcbhbkldcebiaa

namespace Go.Proofs.Ytkcbhbkldcebiaa
open Go.RowKit Go.Deep

set_option maxRecDepth 100000 in
set_option maxHeartbeats 2000000 in
/-- Behind an error nothing is read. -/
theorem rterm_err2 (B : Nat) (sg : Value) (s : ByteArray) (k p : Nat) (er : Int) (w : World) (hB : RfBox w B sg s k er p) (he : er ≠ 0) :
    Calls Try.prog 34 #[.pointer (some ⟨B, 0, none⟩)] w fun e w' => e = .returned (.agg #[.string ⟨#[]⟩, .int .i64 0, .slice none 0 0]) ∧ RfBox w' B sg s k er p ∧ FrB B w w' := by
  have hne : (er == 0) = false := by simpa using he
  have hnb : (er != 0) = true := by simpa using he
  have B0 := alloc_below0 w (.cells #[.string ⟨#[]⟩, .int .i64 0, .slice none 0 0] 28)
  have HB0 := hid (hB.below B0)
  have F0 : Hid (FrB B w (w.alloc (.cells #[.string ⟨#[]⟩, .int .i64 0, .slice none 0 0] 28))) := hid (Fr.of_below B0)
  have X0 : Hid (XBox (w.alloc (.cells #[.string ⟨#[]⟩, .int .i64 0, .slice none 0 0] 28)) w.heap.size (⟨#[]⟩, 0) (.slice none 0 0)) := World.alloc_heap_new w _
  have hc := word_err B sg s k p er _ HB0.out he
  have HC := hid hc
  have ne2 : B ≠ w.heap.size := by have := hB.lt; omega
  clear hc B0 hB
  go_enter Try.func34, Try.ntmps34
  go_wp2_with fail
  refine HC.out.mono ?_
  rintro e w1 ⟨rfl, hrb, hf1⟩
  have hw1 := hf1.low.size
  rw [World.size_alloc] at hw1
  have B1 := alloc_below0 w1 (.cells #[.int .i64 0, .string ⟨#[]⟩, .int .i64 0] 71)
  have R1 := hid (hrb.below B1)
  have X1 : Hid (XBox (w1.alloc (.cells #[.int .i64 0, .string ⟨#[]⟩, .int .i64 0] 71)) w.heap.size (⟨#[]⟩, 0) (.slice none 0 0)) := hid (XBox.below ((hf1.same _ X0.out.lt (by omega)).trans X0.out) B1)
  have F1 : Hid (FrB B w (w1.alloc (.cells #[.int .i64 0, .string ⟨#[]⟩, .int .i64 0] 71))) := hid ((F0.out.trans hf1).trans (Fr.of_below B1))
  clear hrb hf1 B1 HC HB0 F0 X0
  have c3 := R1.out.c3
  have r0 := X1.out.c0; have r1 := X1.out.c1; have r2 := X1.out.c2
  have z0 := X1.out.f (k := 0); have z1 := X1.out.f (k := 1); have z2 := X1.out.f (k := 2)
  go_wp2
  refine bodyPost_ret (results_cell_row rfl _ _ w.heap.size 28 #[.string ⟨#[]⟩, .int .i64 0, .slice none 0 0] (0, 0) _ rfl (X1.out.all (x := ((⟨#[]⟩ : ByteArray), (0 : Int))) _) Try.underlying28 rfl Try.size28) rfl ?_
  exact ⟨rfl, (sets_far ne2 _ _ _).trans R1.out, frB_sets F1.out (Nat.le_refl _) _ _ _⟩
/-- The document's term, at any time. -/
def GenEnd (B : Nat) (sg : Value) (s : ByteArray) (l : List Sym) (k : Nat) (er : Int) (p : Nat) (w : World) (e : Ending) (w' : World) : Prop :=
  ∃ (x : ByteArray × Int) (a : Option Addr) (n c k' : Nat) (e2 : Int) (p2 : Nat), e = .returned (.agg #[.string x.1, .int .i64 x.2, .slice a n c]) ∧ RfBox w' B sg s k' e2 p2 ∧ FrB B w w' ∧ ((er ≠ 0 ∧ e2 = er ∧ p2 = p) ∨ (er = 0 ∧ e2 ≠ 0 ∧ rdC s l false k = .error (e2, p2)) ∨ (er = 0 ∧ e2 = 0 ∧ p2 = p ∧ k' ≤ s.size ∧ ∃ m, n = lenF m ∧ OwnTm false (fun q => w.heap.size ≤ q) w' x a c m ∧ rdC s l false k = .ok (.node 0 0 x m .nil, k')))
theorem rterm_gen {w0 : World} {B : Nat} {S : Option Addr} {n cap : Nat} {l : List Sym} {s : ByteArray} (hB0 : w0.heap.size ≤ B) (hS : SigAt w0 S n l) (k p : Nat) (er : Int) (w : World) (hB : RfBox w B (.slice S n cap) s k er p) (hL : Below w0.heap.size w0 w) (hk : er = 0 → k ≤ s.size ∧ s.size ≤ 800) :
    Calls Try.prog 34 #[.pointer (some ⟨B, 0, none⟩)] w fun e w' => GenEnd B (.slice S n cap) s l k er p w e w' := by
  by_cases he : er = 0
  · subst he
    obtain ⟨hk1, hs⟩ := hk rfl
    refine (rterm_all (cap := cap) hB0 hs hS s.size k p w hk1 (Nat.sub_le _ _) hB hL).mono ?_
    rintro e w' ht
    unfold RTermEnd at ht
    cases hr : rdC s l false k with
    | error q =>
      rw [hr] at ht
      obtain ⟨⟨x, a, n', c, k', rfl, hb⟩, hf⟩ := ht
      exact ⟨x, a, n', c, k', q.1, q.2, rfl, hb, hf, .inr (.inl ⟨rfl, rdC_err s.size false k q hk1 (Nat.sub_le _ _) hr, hr⟩)⟩
    | ok q =>
      rw [hr] at ht
      obtain ⟨F, k'⟩ := q
      obtain ⟨⟨x, m, a, c, rfl, rfl, ho, hb⟩, hf⟩ := ht
      exact ⟨x, a, _, c, k', 0, p, rfl, hb, hf, .inr (.inr ⟨rfl, rfl, rfl, (rdC_to hk1 hr).2, m, rfl, ho, hr⟩)⟩
  · refine (rterm_err2 B _ s k p er w hB he).mono ?_
    rintro e w' ⟨rfl, hr, hf⟩
    exact ⟨(⟨#[]⟩, 0), none, 0, 0, k, er, p, rfl, hr, hf, .inl ⟨he, rfl, rfl⟩⟩

theorem fullE_pre (s : ByteArray) (l : List Sym) : fullE s l = (match preR s l with
    | .error e => .error e
    | .ok (.nil, _) => .error (0, 0)
    | .ok (.node _ _ x m _, k1) => match wantP s k1 6 with
      | .error e => .error e
      | .ok r => match rdC s l false r.to with
        | .error e => .error e
        | .ok (.nil, _) => .error (0, 0)
        | .ok (.node _ _ y u _, k2) => match endR s k2 with
          | .error e => .error e
          | .ok _ => if chk l x m = 0 then (if chk l y u = 0 then .ok ((x, m), (y, u)) else .error (chk l y u, 0)) else .error (chk l x m, 0)) := by
  unfold fullE preR
  by_cases hs : 800 < s.size
  · rw [if_pos hs, if_pos hs]
  · rw [if_neg hs, if_neg hs]
    unfold eqC
    cases rdC s l false 0 with
    | error e => rfl
    | ok q =>
      obtain ⟨F, k⟩ := q
      cases F with
      | nil => rfl
      | node h sz x m r =>
        dsimp only
        cases wantP s k 6 with
        | error e => rfl
        | ok r =>
          dsimp only
          cases rdC s l false r.to with
          | error e => rfl
          | ok q =>
            obtain ⟨G, k2⟩ := q
            cases G with
            | nil => rfl
            | node h sz y u r => rfl
theorem ebox_drew {W : World} {B : Nat} {x y : ByteArray × Int} {v u : Value} (h : EBox W B x v y u) : EBox W.drew B x v y u := h

set_option maxRecDepth 100000 in
set_option maxHeartbeats 8000000 in
/-- The document's Equation of a text. -/
theorem rdocE_any (S : Option Addr) (n cap : Nat) (l : List Sym) (s : ByteArray) (w : World) (hS : SigAt w S n l) (hsm : s.size ≤ maxLen) :
    Calls Try.prog 14 #[.slice S n cap, .string s] w fun e w' => FullEEnd w (fullE s l) e w' := by
  have B0 := alloc_below0 w (.cells #[.string ⟨#[]⟩, .int .i64 0, .slice none 0 0, .string ⟨#[]⟩, .int .i64 0, .slice none 0 0] 35)
  have X0 : Hid (EBox (w.alloc (.cells #[.string ⟨#[]⟩, .int .i64 0, .slice none 0 0, .string ⟨#[]⟩, .int .i64 0, .slice none 0 0] 35)) w.heap.size (⟨#[]⟩, 0) (.slice none 0 0) (⟨#[]⟩, 0) (.slice none 0 0)) := World.alloc_heap_new w _
  have HB := hid B0
  have HS := hid hS
  obtain ⟨res, hres⟩ : ∃ res, fullE s l = res := ⟨_, rfl⟩
  have HRS := hid hres
  rw [hres]
  clear hres B0 hS
  go_enter Try.func14, Try.ntmps14
  go_wp2_with fail
  generalize w.alloc (.cells #[.string ⟨#[]⟩, .int .i64 0, .slice none 0 0, .string ⟨#[]⟩, .int .i64 0, .slice none 0 0] 35) = V0 at X0 HB ⊢
  refine (reader_rf S n cap s V0).mono ?_
  rintro e w1 ⟨rfl, hr1, hb1⟩
  have L1 := hid (HB.out.trans (hb1.mono HB.out.size))
  have X1 := hid (X0.out.below hb1)
  have hV0 : w.heap.size < V0.heap.size := X0.out.lt
  have hc := rterm_pre (w0 := w) (l := l) (by omega) HS.out w1 hr1 L1.out hsm
  have HC := hid hc
  have hB1 := hr1.lt
  clear hc hr1 hb1 X0
  go_wp2_with fail
  refine HC.out.mono ?_
  rintro e w2 ⟨x, ta, tn, tc, k2, er, p, rfl, hr2, hf2, hor⟩
  have hz2 := hf2.low.size
  have B2 := alloc_below0 w2 (.cells #[.string x.1, .int .i64 x.2, .slice ta tn tc] 28)
  have R2 := hid (hr2.below B2)
  have T2 : Hid (XBox (w2.alloc (.cells #[.string x.1, .int .i64 x.2, .slice ta tn tc] 28)) w2.heap.size x (.slice ta tn tc)) := World.alloc_heap_new w2 _
  have X2' : EBox w2 w.heap.size (⟨#[]⟩, 0) (.slice none 0 0) (⟨#[]⟩, 0) (.slice none 0 0) := (hf2.same w.heap.size (by omega) (by omega)).trans X1.out
  have X2 := hid (X2'.below B2)
  have F2 := hid (hf2.trans (Fr.of_below B2))
  have hV2s : (w2.alloc (.cells #[.string x.1, .int .i64 x.2, .slice ta tn tc] 28)).heap.size = w2.heap.size + 1 := World.size_alloc _ _
  have OR2 : Hid ((er ≠ 0 ∧ preR s l = .error (er, p)) ∨ (er = 0 ∧ p = 0 ∧ ∃ m, tn = lenF m ∧ OwnTm false (fun q => w1.heap.size ≤ q) (w2.alloc (.cells #[.string x.1, .int .i64 x.2, .slice ta tn tc] 28)) x ta tc m ∧ preR s l = .ok (.node 0 0 x m .nil, k2) ∧ k2 ≤ s.size)) := by
    rcases hor with h | ⟨h1, h0, m, h2, h3, h4, h5⟩
    · exact .inl h
    · exact .inr ⟨h1, h0, m, h2, h3.below B2, h4, h5⟩
  clear X2' hr2 hf2 hor B2 HC X1
  have c3 := R2.out.c3
  by_cases her : er = 0
  · subst her
    obtain ⟨_, h0, m, rfl, ho2, hpre, hk2⟩ := OR2.out.resolve_left (fun h => h.1 rfl)
    subst h0
    have h800 : s.size ≤ 800 := by
      unfold preR at hpre
      by_cases hs : 800 < s.size
      · rw [if_pos hs] at hpre; cases hpre
      · omega
    have HO2 := hid ho2
    have HPRE := hid hpre
    clear ho2 hpre OR2
    go_wp2_with fail
    generalize w2.alloc (.cells #[.string x.1, .int .i64 x.2, .slice ta (lenF m) tc] 28) = V2 at R2 T2 X2 F2 hV2s HO2 c3 ⊢
    refine (want_rf V0.heap.size (.slice S n cap) s k2 0 6 0 V2 R2.out hsm (fun _ => hk2)).mono ?_
    rintro e w3 ⟨wk, wt, wp, k3, e3, p3, rfl, hr3, hf3, hor3⟩
    have hz3 := hf3.low.size
    have T3' : XBox w3 w2.heap.size x (.slice ta (lenF m) tc) := (hf3.same _ T2.out.lt (by omega)).trans T2.out
    have X3' : EBox w3 w.heap.size (⟨#[]⟩, 0) (.slice none 0 0) (⟨#[]⟩, 0) (.slice none 0 0) := (hf3.same _ X2.out.lt (by omega)).trans X2.out
    have L3' : Below w.heap.size w w3 := low_fr (low_fr L1.out F2.out (by omega)) hf3 (by omega)
    have O3 := hid (HO2.out.keep (fun q hq hlt => hf3.same q hlt (by omega)))
    have hk3 : e3 = 0 → k3 ≤ s.size ∧ s.size ≤ 800 := fun h => by
      rcases hor3 with ⟨h1, _⟩ | ⟨_, h1⟩
      · exact absurd rfl h1
      · cases hw : wantP s k2 6 with
        | error q => rw [hw] at h1; exact absurd h h1.2.2
        | ok r => rw [hw] at h1; exact ⟨h1.2.2.2.2, h800⟩
    have hc4 := rterm_gen (w0 := w) (l := l) (cap := cap) (by omega) HS.out k3 p3 e3 w3 hr3 L3' hk3
    have T3 := hid T3'; have X3 := hid X3'; have HC4 := hid hc4; have L3 := hid L3'
    have W3 : Hid (match wantP s k2 6 with | .error q => e3 = q.1 ∧ p3 = q.2 ∧ e3 ≠ 0 | .ok r => e3 = 0 ∧ p3 = 0 ∧ k3 = r.to) := by
      show match wantP s k2 6 with | .error q => e3 = q.1 ∧ p3 = q.2 ∧ e3 ≠ 0 | .ok r => e3 = 0 ∧ p3 = 0 ∧ k3 = r.to
      rcases hor3 with ⟨h1, _⟩ | ⟨_, h1⟩
      · exact absurd rfl h1
      · cases hw : wantP s k2 6 with
        | error q => rw [hw] at h1; exact h1
        | ok r => rw [hw] at h1; exact ⟨h1.1, h1.2.1, h1.2.2.1⟩
    have hzT : w2.heap.size < w3.heap.size := T3'.lt
    clear hr3 hf3 hor3 T3' X3' L3' hc4 R2 T2 X2 F2 HO2 c3 hk3
    go_wp2_with fail
    refine HC4.out.mono ?_
    rintro e w4 ⟨y, ua, un, uc, k4, e4, p4, rfl, hr4, hf4, hor4⟩
    have hz4 := hf4.low.size
    have B4 := alloc_below0 w4 (.cells #[.string y.1, .int .i64 y.2, .slice ua un uc] 28)
    have R4 := hr4.below B4
    have U4 : Hid (XBox (w4.alloc (.cells #[.string y.1, .int .i64 y.2, .slice ua un uc] 28)) w4.heap.size y (.slice ua un uc)) := World.alloc_heap_new w4 _
    have T4' : XBox w4 w2.heap.size x (.slice ta (lenF m) tc) := (hf4.same _ hzT (by omega)).trans T3.out
    have T4 := hid (T4'.below B4)
    have X4' : EBox w4 w.heap.size (⟨#[]⟩, 0) (.slice none 0 0) (⟨#[]⟩, 0) (.slice none 0 0) := (hf4.same _ X3.out.lt (by omega)).trans X3.out
    have X4 := hid (X4'.below B4)
    have F4 := hid (hf4.trans (Fr.of_below B4))
    have O4 := hid ((O3.out.keep (fun q hq hlt => hf4.same q hlt (by omega))).below B4)
    have hV4s : (w4.alloc (.cells #[.string y.1, .int .i64 y.2, .slice ua un uc] 28)).heap.size = w4.heap.size + 1 := World.size_alloc _ _
    have hk4 : e4 = 0 → k4 ≤ s.size := fun h => by
      rcases hor4 with ⟨h1, h2, _⟩ | ⟨_, h1, _⟩ | h1
      · exact absurd (h2.symm.trans h) h1
      · exact absurd h h1
      · exact h1.2.2.2.1
    have hc5 := rest_any V0.heap.size (.slice S n cap) s k4 p4 e4 _ R4 hsm hk4
    have HC5 := hid hc5
    have OR4 : Hid ((e3 ≠ 0 ∧ e4 = e3 ∧ p4 = p3) ∨ (e3 = 0 ∧ e4 ≠ 0 ∧ rdC s l false k3 = .error (e4, p4)) ∨ (e3 = 0 ∧ e4 = 0 ∧ p4 = p3 ∧ ∃ u, un = lenF u ∧ OwnTm false (fun q => w3.heap.size ≤ q) (w4.alloc (.cells #[.string y.1, .int .i64 y.2, .slice ua un uc] 28)) y ua uc u ∧ rdC s l false k3 = .ok (.node 0 0 y u .nil, k4))) := by
      rcases hor4 with h | h | ⟨h1, h2, h3, _, u, h4, h5, h6⟩
      · exact .inl h
      · exact .inr (.inl h)
      · exact .inr (.inr ⟨h1, h2, h3, u, h4, h5.below B4, h6⟩)
    clear hc5 hk4 hor4 hr4 hf4 B4 R4 T4' X4' HC4 T3 X3 O3
    go_wp2_with fail
    generalize w4.alloc (.cells #[.string y.1, .int .i64 y.2, .slice ua un uc] 28) = V4 at HC5 U4 T4 X4 F4 O4 OR4 hV4s ⊢
    refine HC5.out.mono ?_
    rintro e w5 ⟨rfl, ⟨k5, hr5⟩, hf5⟩
    obtain ⟨e5, p5, he5⟩ : ∃ e5 p5, restF s k4 e4 p4 = (e5, p5) := ⟨_, _, rfl⟩
    rw [he5] at hr5
    dsimp only at hr5
    have hz5 := hf5.low.size
    have FIN : Hid ((e5 ≠ 0 ∧ res = .error (e5, p5)) ∨ (e5 = 0 ∧ p5 = 0 ∧ ∃ u, un = lenF u ∧ OwnTm false (fun q => w3.heap.size ≤ q) w5 y ua uc u ∧ res = if chk l x m = 0 then (if chk l y u = 0 then .ok ((x, m), (y, u)) else .error (chk l y u, 0)) else .error (chk l x m, 0))) := by
      have h := HRS.out
      rw [fullE_pre, HPRE.out] at h
      dsimp only at h
      unfold restF at he5
      have h3 := W3.out
      cases hw : wantP s k2 6 with
      | error q =>
        rw [hw] at h h3
        dsimp only at h h3
        obtain ⟨rfl, rfl, h3⟩ := h3
        rcases OR4.out with ⟨_, h4, h5⟩ | ⟨h4, _⟩ | ⟨h4, _⟩
        · rw [h4, h5, if_neg h3] at he5
          cases he5
          exact .inl ⟨h3, h.symm⟩
        · exact absurd h4 h3
        · exact absurd h4 h3
      | ok r =>
        rw [hw] at h h3
        dsimp only at h h3
        obtain ⟨h3a, h3b, h3c⟩ := h3
        subst h3c
        rcases OR4.out with ⟨h4, _⟩ | ⟨_, h4, h5⟩ | ⟨_, h4, h5, u, h6, h7, h8⟩
        · exact absurd h3a h4
        · rw [if_neg h4] at he5
          cases he5
          rw [h5] at h
          exact .inl ⟨h4, h.symm⟩
        · rw [if_pos h4] at he5
          rw [h8] at h
          dsimp only at h
          cases hen : endR s k4 with
          | error q =>
            rw [hen] at he5 h
            dsimp only at he5 h
            subst he5
            exact .inl ⟨end_err hen, h.symm⟩
          | ok q =>
            rw [hen] at he5 h
            dsimp only at he5 h
            cases he5
            exact .inr ⟨rfl, by rw [h5, h3b], u, h6, h7.keep (fun q hq hlt => hf5.same q hlt (by omega)), h.symm⟩
    have T5' : XBox w5 w2.heap.size x (.slice ta (lenF m) tc) := (hf5.same _ T4.out.lt (by omega)).trans T4.out
    have U5' : XBox w5 w4.heap.size y (.slice ua un uc) := (hf5.same _ U4.out.lt (by omega)).trans U4.out
    have X5' : EBox w5 w.heap.size (⟨#[]⟩, 0) (.slice none 0 0) (⟨#[]⟩, 0) (.slice none 0 0) := (hf5.same _ X4.out.lt (by omega)).trans X4.out
    have L5 : Hid (Below w.heap.size w w5) := hid (low_fr (low_fr L3.out F4.out (by omega)) hf5 (by omega))
    have O5 := hid (O4.out.keep (fun q hq hlt => hf5.same q hlt (by omega)))
    have R5 := hid hr5; have T5 := hid T5'; have U5 := hid U5'; have X5 := hid X5'
    clear hr5 hf5 he5 T5' U5' X5' HC5 U4 T4 X4 F4 O4 OR4 HRS W3 HPRE
    have c3 := R5.out.c3; have c4 := R5.out.c4
    have r0 := X5.out.c 0; have r1 := X5.out.c 1; have r2 := X5.out.c 2; have r3 := X5.out.c 3; have r4 := X5.out.c 4; have r5 := X5.out.c 5
    have z0 := X5.out.f 0; have z1 := X5.out.f 1; have z2 := X5.out.f 2; have z3 := X5.out.f 3; have z4 := X5.out.f 4; have z5 := X5.out.f 5
    by_cases h50 : e5 = 0
    · subst h50
      obtain ⟨_, h0, u, rfl, hu5, hres⟩ := FIN.out.resolve_left (fun h => h.1 rfl)
      subst h0
      have HU5 := hid hu5; have HR5 := hid hres
      have hc6 := checks_rf V0.heap.size S n cap l s k5 0 x m ta tc w5 R5.out (HS.out.below L5.out) O5.out.tm
      have HC6 := hid hc6
      have u0 := T5.out.c0; have u1 := T5.out.c1; have u2 := T5.out.c2
      clear hc6 hu5 hres FIN
      go_wp2_with fail
      refine HC6.out.mono ?_
      rintro e w6 ⟨rfl, hr6, hf6⟩
      have hz6 := hf6.low.size
      have U6' : XBox w6 w4.heap.size y (.slice ua (lenF u) uc) := (hf6.same _ U5.out.lt (by omega)).trans U5.out
      have T6' : XBox w6 w2.heap.size x (.slice ta (lenF m) tc) := (hf6.same _ T5.out.lt (by omega)).trans T5.out
      have X6' : EBox w6 w.heap.size (⟨#[]⟩, 0) (.slice none 0 0) (⟨#[]⟩, 0) (.slice none 0 0) := (hf6.same _ X5.out.lt (by omega)).trans X5.out
      have L6 : Hid (Below w.heap.size w w6) := hid (low_fr L5.out hf6 (by omega))
      have O6 := hid (O5.out.keep (fun q hq hlt => hf6.same q hlt (by omega)))
      have HU6 := hid (HU5.out.keep (fun q hq hlt => hf6.same q hlt (by omega)))
      have hp0 : (if chk l x m = 0 then 0 else 0) = 0 := by split <;> rfl
      rw [hp0] at hr6
      have R6 := hid hr6; have U6 := hid U6'; have T6 := hid T6'; have X6 := hid X6'
      have hzU : w4.heap.size < w6.heap.size := U6'.lt
      have hzT6 : w2.heap.size < w6.heap.size := T6'.lt
      have d3 := hr6.c3; have d4 := hr6.c4
      have g0 := X6'.c 0; have g1 := X6'.c 1; have g2 := X6'.c 2; have g3 := X6'.c 3; have g4 := X6'.c 4; have g5 := X6'.c 5
      have h0 := X6'.f 0; have h1 := X6'.f 1; have h2 := X6'.f 2; have h3 := X6'.f 3; have h4 := X6'.f 4; have h5 := X6'.f 5
      clear hr6 hf6 U6' T6' X6' HC6 c3 c4 r0 r1 r2 r3 r4 r5 z0 z1 z2 z3 z4 z5 u0 u1 u2 R5 T5 U5 X5 O5 HU5
      by_cases hch : chk l x m = 0
      · have hres := HR5.out
        rw [if_pos hch] at hres
        have HR6 := hid hres
        rw [hch] at d3
        have R6z : RfBox w6 V0.heap.size (.slice S n cap) s k5 0 0 := by have := R6.out; rw [hch] at this; exact this
        have hc7 := checks_rf V0.heap.size S n cap l s k5 0 y u ua uc w6 R6z (HS.out.below L6.out) HU6.out.tm
        have HC7 := hid hc7
        have v0 := U6.out.c0; have v1 := U6.out.c1; have v2 := U6.out.c2
        clear hc7 hres R6z HR5
        go_wp2_with fail
        refine HC7.out.mono ?_
        rintro e w7 ⟨rfl, hr7, hf7⟩
        have hz7 := hf7.low.size
        have U7' : XBox w7 w4.heap.size y (.slice ua (lenF u) uc) := (hf7.same _ hzU (by omega)).trans U6.out
        have T7' : XBox w7 w2.heap.size x (.slice ta (lenF m) tc) := (hf7.same _ hzT6 (by omega)).trans T6.out
        have X7' : EBox w7 w.heap.size (⟨#[]⟩, 0) (.slice none 0 0) (⟨#[]⟩, 0) (.slice none 0 0) := (hf7.same _ X6.out.lt (by omega)).trans X6.out
        have L7 : Hid (Below w.heap.size w w7) := hid (low_fr L6.out hf7 (by omega))
        have O7 := hid (O6.out.keep (fun q hq hlt => hf7.same q hlt (by omega)))
        have HU7 := hid (HU6.out.keep (fun q hq hlt => hf7.same q hlt (by omega)))
        have hp1 : (if chk l y u = 0 then 0 else 0) = 0 := by split <;> rfl
        rw [hp1] at hr7
        have X7 := hid X7'
        have f3 := hr7.c3; have f4 := hr7.c4
        have t0 := T7'.c0; have t1 := T7'.c1; have t2 := T7'.c2
        have m0 := U7'.c0; have m1 := U7'.c1; have m2 := U7'.c2
        have i0 := X7'.c 0; have i1 := X7'.c 1; have i2 := X7'.c 2; have i3 := X7'.c 3; have i4 := X7'.c 4; have i5 := X7'.c 5
        have j0 := X7'.f 0; have j1 := X7'.f 1; have j2 := X7'.f 2; have j3 := X7'.f 3; have j4 := X7'.f 4; have j5 := X7'.f 5
        clear hr7 hf7 U7' T7' X7' HC7 d3 d4 g0 g1 g2 g3 g4 g5 h0 h1 h2 h3 h4 h5 v0 v1 v2 R6 T6 U6 X6 O6 HU6
        by_cases hcu : chk l y u = 0
        · have hres := HR6.out
          rw [if_pos hcu] at hres
          subst hres
          rw [hcu] at f3
          have n1 : ¬ w.heap.size = w2.heap.size := by omega
          have n2 : ¬ w.heap.size = w4.heap.size := by omega
          go_wp2
          refine ret_eq3 rfl rfl (ebox_all X7.out x y (.slice ta (lenF m) tc) (.slice ua (lenF u) uc)) rfl ?_
          exact ⟨⟨ta, tc, ua, uc, rfl, (O7.out.keep (fun q hq _ => sets_far6 (by omega) _ _ _ _ _ _)).mono (fun q _ hq => by omega), (HU7.out.keep (fun q hq _ => sets_far6 (by omega) _ _ _ _ _ _)).mono (fun q _ hq => by omega)⟩, sets_low6 L7.out (Nat.le_refl _) _ _ _ _ _ _⟩
        · have hres := HR6.out
          rw [if_neg hcu] at hres
          subst hres
          have hnb : (chk l y u != 0) = true := by simpa using hcu
          go_wp2
          go_region
          all_goals
            go_wp2
            refine ret_eq3 rfl rfl (ebox_drew (ebox_all X7.out (⟨#[]⟩, 0) (⟨#[]⟩, 0) (.slice none 0 0) (.slice none 0 0))) rfl ?_
            exact ⟨rfl, (sets_low6 L7.out (Nat.le_refl _) _ _ _ _ _ _).drew⟩
      · have hres := HR5.out
        rw [if_neg hch] at hres
        subst hres
        have hnb : (chk l x m != 0) = true := by simpa using hch
        have hnc : (chk l x m == 0) = false := by simpa using hch
        go_wp2
        go_region
        all_goals
          go_wp2
          refine ret_eq3 rfl rfl (ebox_drew (ebox_all X6.out (⟨#[]⟩, 0) (⟨#[]⟩, 0) (.slice none 0 0) (.slice none 0 0))) rfl ?_
          exact ⟨rfl, (sets_low6 L6.out (Nat.le_refl _) _ _ _ _ _ _).drew⟩
    · obtain ⟨_, hres⟩ := FIN.out.resolve_right (fun h => h50 h.1)
      subst hres
      have hnb : (e5 != 0) = true := by simpa using h50
      have hnc : (e5 == 0) = false := by simpa using h50
      clear FIN
      go_wp2
      go_region
      all_goals
        go_wp2
        refine ret_eq3 rfl rfl (ebox_drew (ebox_all X5.out (⟨#[]⟩, 0) (⟨#[]⟩, 0) (.slice none 0 0) (.slice none 0 0))) rfl ?_
        exact ⟨rfl, (sets_low6 L5.out (Nat.le_refl _) _ _ _ _ _ _).drew⟩
  · obtain ⟨_, hpre⟩ := OR2.out.resolve_right (fun h => her h.1)
    have hres := HRS.out
    rw [fullE_pre, hpre] at hres
    dsimp only at hres
    have hnc : (er == 0) = false := by simpa using her
    have hnb : (er != 0) = true := by simpa using her
    clear hpre OR2 HRS
    go_wp2_with fail
    generalize w2.alloc (.cells #[.string x.1, .int .i64 x.2, .slice ta tn tc] 28) = V2 at R2 T2 X2 F2 hV2s c3 ⊢
    refine (rterm_err2 V0.heap.size (.slice S n cap) s k2 p er V2 R2.out her).mono ?_
    rintro e w3 ⟨rfl, hr3, hf3⟩
    have hz3 := hf3.low.size
    have B3 := alloc_below0 w3 (.cells #[.string ⟨#[]⟩, .int .i64 0, .slice none 0 0] 28)
    have R3 := hid (hr3.below B3)
    have X3' : EBox w3 w.heap.size (⟨#[]⟩, 0) (.slice none 0 0) (⟨#[]⟩, 0) (.slice none 0 0) := (hf3.same _ X2.out.lt (by omega)).trans X2.out
    have X3 := hid (X3'.below B3)
    have F3 := hid ((F2.out.trans hf3).trans (Fr.of_below B3))
    have hV3s : (w3.alloc (.cells #[.string ⟨#[]⟩, .int .i64 0, .slice none 0 0] 28)).heap.size = w3.heap.size + 1 := World.size_alloc _ _
    clear hr3 hf3 X3' B3 R2 T2 X2 F2 c3
    go_wp2_with fail
    generalize w3.alloc (.cells #[.string ⟨#[]⟩, .int .i64 0, .slice none 0 0] 28) = V3 at R3 X3 F3 hV3s ⊢
    refine (rest_any V0.heap.size (.slice S n cap) s k2 p er V3 R3.out hsm (fun h => absurd h her)).mono ?_
    rintro e w4 ⟨rfl, ⟨k4, hr4⟩, hf4⟩
    unfold restF at hr4
    rw [if_neg her] at hr4
    dsimp only at hr4
    have X4' : EBox w4 w.heap.size (⟨#[]⟩, 0) (.slice none 0 0) (⟨#[]⟩, 0) (.slice none 0 0) := (hf4.same _ X3.out.lt (by omega)).trans X3.out
    have X4 := hid X4'
    have L4 : Hid (Below w.heap.size w w4) := hid (low_fr (low_fr L1.out F3.out (by omega)) hf4 (by omega))
    have d3 := hr4.c3; have d4 := hr4.c4
    have g0 := X4'.c 0; have g1 := X4'.c 1; have g2 := X4'.c 2; have g3 := X4'.c 3; have g4 := X4'.c 4; have g5 := X4'.c 5
    have h0 := X4'.f 0; have h1 := X4'.f 1; have h2 := X4'.f 2; have h3 := X4'.f 3; have h4 := X4'.f 4; have h5 := X4'.f 5
    clear hr4 hf4 X4' R3 X3 F3
    subst hres
    go_wp2
    go_region
    all_goals
      go_wp2
      refine ret_eq3 rfl rfl (ebox_drew (ebox_all X4.out (⟨#[]⟩, 0) (⟨#[]⟩, 0) (.slice none 0 0) (.slice none 0 0))) rfl ?_
      exact ⟨rfl, (sets_low6 L4.out (Nat.le_refl _) _ _ _ _ _ _).drew⟩
end Go.Proofs.Ytkcbhbkldcebiaa

namespace Go.Proofs.Ytkcbhbkldcebiaa
open Go.RowKit Go.Deep

/-- An answer as four values. -/
def resE : Except (Int × Nat) (Tn × Tn) → Tn × Tn × Int × Nat
  | .error q => (((⟨#[]⟩, 0), .nil), ((⟨#[]⟩, 0), .nil), q.1, q.2)
  | .ok (t, u) => (t, u, 0, 0)
def TupEEnd (w : World) (x : ByteArray × Int) (m : Fo) (y : ByteArray × Int) (u : Fo) (er : Int) (p : Nat) (e : Ending) (w' : World) : Prop := ∃ a c b d, e = .returned (.tuple #[.agg #[.string x.1, .int .i64 x.2, .slice a (lenF m) c, .string y.1, .int .i64 y.2, .slice b (lenF u) d], .int .i64 er, .int .i64 p]) ∧ TmAt w' x a c m ∧ TmAt w' y b d u ∧ Below w.heap.size w w'
theorem tupE_of {w w' : World} {res : Except (Int × Nat) (Tn × Tn)} {e : Ending} (h : FullEEnd w res e w') {x y : ByteArray × Int} {m u : Fo} {er : Int} {p : Nat} (hr : resE res = ((x, m), (y, u), er, p)) : TupEEnd w x m y u er p e w' := by
  cases res with
  | error q =>
    cases hr
    obtain ⟨rfl, hb⟩ := h
    exact ⟨none, 0, none, 0, rfl, ⟨⟨by decide, by decide, by decide, by decide⟩, .inl rfl⟩, ⟨⟨by decide, by decide, by decide, by decide⟩, .inl rfl⟩, hb⟩
  | ok t =>
    obtain ⟨t, v⟩ := t
    cases hr
    obtain ⟨⟨a, c, b, d, rfl, ho, hp⟩, hb⟩ := h
    exact ⟨a, c, b, d, rfl, ho.tm, hp.tm, hb⟩

set_option maxRecDepth 100000 in
set_option maxHeartbeats 4000000 in
theorem textEquations_walk (S : Option Addr) (n cap : Nat) (l : List Sym) (a : Option Addr) (len c : Nat) (ss : List ByteArray) (w : World) (hS : SigAt w S n l) (hA : StrsAt w a len ss) :
    Calls Try.prog 4 #[.slice S n cap, .slice a len c] w fun e w' => e = .returned (.bool true) ∧ Below w.heap.size w w' := by
  have HS := hid hS; have HA := hid hA
  have hlm := hA.small
  unfold maxLen at hlm
  clear hS hA
  go_enter Try.func4, Try.ntmps4
  go_wp2_with fail
  refine (head_any w).mono ?_
  rintro e w1 ⟨rfl, hb1⟩
  have L1 := hid hb1
  clear hb1
  go_wp2_with fail
  go_loopw [6] (fun ov wr => ∃ i : Nat, ov = .int .i64 i ∧ i ≤ len ∧ Below w.heap.size w wr) (fun ov _ => len - (intOf ov).toNat)
  case atStart => exact ⟨0, rfl, Nat.zero_le _, L1.out⟩
  case round =>
    obtain ⟨i, rfl, hi, hb⟩ := hrel
    have HB := hid hb
    clear hb
    by_cases hlt : i < len
    · have hil : i < ss.length := by have := HA.out.len; omega
      obtain ⟨bb, off, rfl, hcell⟩ := HA.out.cells i hil
      have hfit : ss[i].size ≤ maxLen := HA.out.fits _ (List.getElem_mem hil)
      obtain ⟨s, hs⟩ : ∃ s, ss[i] = s := ⟨_, rfl⟩
      rw [hs] at hcell hfit
      obtain ⟨x, m, y, u, er, p, hv⟩ : ∃ (x : ByteArray × Int) (m : Fo) (y : ByteArray × Int) (u : Fo) (er : Int) (p : Nat), resE (fullE s l) = ((x, m), (y, u), er, p) := ⟨_, _, _, _, _, _, rfl⟩
      have HT : Hid (∀ W, Below w.heap.size w W → Calls Try.prog 13 #[.slice S n cap, .string s] W fun e w' => TupEEnd W x m y u er p e w') := hid fun W hW => (equation_any S n cap l s W (HS.out.below hW)).mono (fun _ _ h => tupE_of h hv)
      have HD : Hid (∀ W, Below w.heap.size w W → Calls Try.prog 14 #[.slice S n cap, .string s] W fun e w' => TupEEnd W x m y u er p e w') := hid fun W hW => (rdocE_any S n cap l s W (HS.out.below hW) hfit).mono (fun _ _ h => tupE_of h hv)
      clear hv hs hfit
      have q0 := below_cell HB.out _ _ hcell
      go_wp2_with fail
      refine (HT.out wr HB.out).mono ?_
      rintro e w2 ⟨ta, tc, tb, td, rfl, ht2, hu2, hb2⟩
      have B2 := alloc_below0 w2 (.cells #[.string x.1, .int .i64 x.2, .slice ta (lenF m) tc, .string y.1, .int .i64 y.2, .slice tb (lenF u) td] 35)
      have X2 : Hid (EBox (w2.alloc (.cells #[.string x.1, .int .i64 x.2, .slice ta (lenF m) tc, .string y.1, .int .i64 y.2, .slice tb (lenF u) td] 35)) w2.heap.size x (.slice ta (lenF m) tc) y (.slice tb (lenF u) td)) := World.alloc_heap_new w2 _
      have T2 := hid (ht2.below B2)
      have U2 := hid (hu2.below B2)
      have L2 : Hid (Below w.heap.size w (w2.alloc (.cells #[.string x.1, .int .i64 x.2, .slice ta (lenF m) tc, .string y.1, .int .i64 y.2, .slice tb (lenF u) td] 35))) := hid ((HB.out.trans (hb2.mono HB.out.size)).alloc (HB.out.trans (hb2.mono HB.out.size)).size _)
      clear ht2 hu2 hb2 B2 q0
      have q2 := below_cell L2.out _ _ hcell
      go_wp2_with fail
      generalize w2.alloc (.cells #[.string x.1, .int .i64 x.2, .slice ta (lenF m) tc, .string y.1, .int .i64 y.2, .slice tb (lenF u) td] 35) = V2 at X2 T2 U2 L2 q2 ⊢
      refine (HD.out V2 L2.out).mono ?_
      rintro e w3 ⟨ua, uc, ub, ud, rfl, ht3, hu3, hb3⟩
      have B3 := alloc_below0 w3 (.cells #[.string x.1, .int .i64 x.2, .slice ua (lenF m) uc, .string y.1, .int .i64 y.2, .slice ub (lenF u) ud] 35)
      have X3 := hid ((X2.out.below hb3).below B3)
      have Y3 : Hid (EBox (w3.alloc (.cells #[.string x.1, .int .i64 x.2, .slice ua (lenF m) uc, .string y.1, .int .i64 y.2, .slice ub (lenF u) ud] 35)) w3.heap.size x (.slice ua (lenF m) uc) y (.slice ub (lenF u) ud)) := World.alloc_heap_new w3 _
      have T3 := hid ((T2.out.below hb3).below B3)
      have U3 := hid ((U2.out.below hb3).below B3)
      have P3 := hid (ht3.below B3)
      have Q3 := hid (hu3.below B3)
      have L3 : Hid (Below w.heap.size w (w3.alloc (.cells #[.string x.1, .int .i64 x.2, .slice ua (lenF m) uc, .string y.1, .int .i64 y.2, .slice ub (lenF u) ud] 35))) := hid ((L2.out.trans (hb3.mono L2.out.size)).alloc (L2.out.trans (hb3.mono L2.out.size)).size _)
      have x0 := X3.out.c 0; have x1 := X3.out.c 1; have x2 := X3.out.c 2
      have y0 := Y3.out.c 0; have y1 := Y3.out.c 1; have y2 := Y3.out.c 2
      clear ht3 hu3 hb3 B3 q2 X2 T2 U2 L2
      go_wp2_with fail
      generalize w3.alloc (.cells #[.string x.1, .int .i64 x.2, .slice ua (lenF m) uc, .string y.1, .int .i64 y.2, .slice ub (lenF u) ud] 35) = V3 at X3 Y3 T3 U3 P3 Q3 L3 x0 x1 x2 y0 y1 y2 ⊢
      refine (exact_any x m ta ua tc uc V3 T3.out P3.out).mono ?_
      rintro e w4 ⟨rfl, hb4⟩
      have L4 := hid (L3.out.trans (hb4.mono L3.out.size))
      have X4 := X3.out.below hb4
      have Y4 := Y3.out.below hb4
      have U4 := hid (U3.out.below hb4)
      have Q4 := hid (Q3.out.below hb4)
      have x3 := X4.c 3; have x4 := X4.c 4; have x5 := X4.c 5
      have y3 := Y4.c 3; have y4 := Y4.c 4; have y5 := Y4.c 5
      clear hb4 x0 x1 x2 y0 y1 y2 X4 Y4 X3 Y3 U3 Q3
      go_wp2_with fail
      refine (exact_any y u tb ub td ud w4 U4.out Q4.out).mono ?_
      rintro e w5 ⟨rfl, hb5⟩
      have L5 := hid (L4.out.trans (hb5.mono L4.out.size))
      clear hb5 x3 x4 x5 y3 y4 y5
      go_wp2
      go_roundw
      case rel => exact ⟨i + 1, by go_num, by omega, L5.out⟩
      case measure => simp [intOf]; omega
    · go_wp2
      go_ret
      exact ⟨rfl, HB.out⟩
end Go.Proofs.Ytkcbhbkldcebiaa

namespace Go.Proofs.Ytkcbhbkldcebiaa
open Go.ChangeShapes Go.WideShapes Go.ChangeAt Go.RowKit Go.Deep

set_option maxRecDepth 100000 in
theorem textEquations_lifted (os : Os) (started : os.Started) (H : Type) (enc : TypeId × Value → H) :
    ReturnsInHanded {} Try.checked os 4 .any (Rows.textEquationsSpec.pre6 enc Try.prog Try.f4 Rows.textEquationsRow.domain false) (Rows.textEquationsSpec.post enc Try.prog Try.f4 false true false false) := by
  refine returnsInHanded_of_change_sized (C := Try.checked) own started (by kernel_rfl) Try.func4
    (ChangeSpec.witness6 (enc := enc) (C := Try.checked) false ⟨#[], #[.slice none 0 0, .slice none 0 0], []⟩ 8 (by kernel_rfl) (by kernel_rfl) (by kernel_rfl) (by kernel_rfl)) ?_
  intro W base args ds gs before hval0 hW hcnd hsz0 _
  have hval : ∀ (j : Nat) t v, Try.f4.params[j]? = some t → args[j]? = some v → Value.okWide Try.prog W .any base t v := hval0
  have hW' := hW
  obtain ⟨p, q, hA0, hV, rfl, hfz, hnd⟩ := hW
  have hA : DataW.TrodAll enc Try.prog W 0 (fun _ => true) true Try.f4.params.toList args.toList ds p := hA0
  rw [Try.params4] at hA hval
  obtain ⟨v0, vs0, d0, ds0, p0, q0, hargs, rfl, rfl, h0, r0⟩ := trodAll_cons hA
  obtain ⟨v1, vs1, d1, ds1, p1, q1, rfl, rfl, rfl, h1, r1⟩ := trodAll_cons r0
  obtain ⟨rfl, rfl, rfl⟩ := trodAll_nil r1
  obtain rfl : args = #[v0, v1] := by cases args; simp_all
  obtain ⟨rfl, rfl⟩ := trodVars_none hV
  have lt0 : ∀ x ∈ p0, x.block < W.heap.size := by obtain ⟨m, hm⟩ := h0; exact DataW.trod_lt m _ _ _ hm
  have lt1 : ∀ x ∈ p1, x.block < W.heap.size := by obtain ⟨m, hm⟩ := h1; exact DataW.trod_lt m _ _ _ hm
  obtain ⟨a0, len0, cap0, rfl⟩ := okWide_slice Try.underlying23 (hval 0 23 v0 rfl rfl)
  obtain ⟨a1, len1, cap1, rfl⟩ := okWide_slice Try.underlying24 (hval 1 24 v1 rfl rfl)
  obtain ⟨l, hl, _, _⟩ := sig_open h0
  obtain ⟨ss, hss⟩ := strs_open h1
  clear hA0 hval0 hsz0
  refine (textEquations_walk a0 len0 cap0 l a1 len1 cap1 ss W hl hss).mono fun e W' ⟨he, bel⟩ => ?_
  subst he
  exact ⟨_, rfl, _, _, _, [], _, [], hW', trodAll_mk1 (shut_bool Try.underlying4 _), (trodAll_cons_mk (Below.trod laidOut (by kernel_rfl) (of_decide_eq_true (by kernel_rfl)) h0 bel lt0) (trodAll_cons_mk (Below.trod laidOut (by kernel_rfl) (of_decide_eq_true (by kernel_rfl)) h1 bel lt1) trodAll_mk0)), rfl, bel.frame _, fun h => by cases h⟩

theorem textEquations_holds : Rows.TextEquationsSaid :=
  OpenClaim.holds_of_wide 4 Try.f4 rfl rfl rfl rfl rfl rfl rfl ⟨rfl, rfl, rfl, rfl, rfl⟩ rfl rfl rfl rfl rfl (by kernel_rfl) Try.func4 (by kernel_rfl)
    (of_decide_eq_true (by kernel_rfl)) (by unfold Func.isWrapper; first | (rw [if_pos (by decide +kernel)]; kernel_rfl) | (rw [if_neg (by decide +kernel)]; exact ⟨rfl, rfl⟩))
    (fun os started H enc _ => textEquations_lifted os started H enc)
end Go.Proofs.Ytkcbhbkldcebiaa
