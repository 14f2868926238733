/- For every signature, two terms and list of binds of bulk at most 1048576 together TextBack returns true: what Show, ShowEquation and ShowBinds of package text write of right terms is read as the same by Term, Equation and Binds, and what was handed in stays; the condition is the second form's bound. -/
import Derived.Test.YtkcbhbkldcebiaaTSpoil
import Derived.Test.YtkcbhbkldcebiaaTPath
import Derived.Test.YtkcbhbkldcebiaaZCheck
import Derived.RegionDies
import Derived.Test.YtkcbhbkldcebiaaZRead
import Derived.Test.YtkcbhbkldcebiaaZShow
import Derived.Test.YtkcbhbkldcebiaaSOpen
import Derived.Test.YtkcbhbkldcebiaaTRChkB
import Derived.Test.YtkcbhbkldcebiaaRChk
import Derived.Test.YtkcbhbkldcebiaaTKept
import Derived.Test.YtkcbhbkldcebiaaZHead
namespace Go.Proofs.Ytkcbhbkldcebiaa
open Go.RowKit Go.Deep

/-- Alike in every field. -/
def exF : Fo → Fo → Bool
  | .nil, _ => true
  | .node _ _ _ _ _, .nil => true
  | .node _ _ x l r, .node _ _ y m s => ((x.1.toList == y.1.toList) && (x.2 == y.2) && (lenF l == lenF m) && exF l m) && exF r s
def exN (x y : ByteArray × Int) (l m : Fo) : Bool := (x.1.toList == y.1.toList) && (x.2 == y.2) && (lenF l == lenF m) && exF l m
def RExactOk (k : Nat) : Prop := ∀ (x y : ByteArray × Int) (l m : Fo) (a b : Option Addr) (c d : Nat) (w : World), nodesF l ≤ k → TmAt w x a c l → TmAt w y b d m →
  Calls Try.prog 12 #[.agg #[.string x.1, .int .i64 x.2, .slice a (lenF l) c], .agg #[.string y.1, .int .i64 y.2, .slice b (lenF m) d]] w fun e w' => e = .returned (.bool (exN x y l m)) ∧ Below w.heap.size w w'

set_option maxRecDepth 100000 in
set_option maxHeartbeats 2000000 in
theorem rexact_all : ∀ k, RExactOk k := by
  intro k
  induction k using Nat.strongRecOn with
  | _ k ih =>
    intro x y l m a b c d w hk hS hT
    have HS : Hid (TmAt w x a c l) := hS
    have HT : Hid (TmAt w y b d m) := hT
    have IH : Hid (∀ j, j < k → RExactOk j) := ih
    have PA : Hid (Pair w x a (lenF l) c y b (lenF m) d ((w.alloc (.cells #[.string x.1, .int .i64 x.2, .slice a (lenF l) c] 28)).alloc (.cells #[.string y.1, .int .i64 y.2, .slice b (lenF m) d] 28))) := Pair.new _ _ _ _ _ _ _ _ _
    have hn : lenF l ≤ 9223372036854775807 := by have := hS.sizes.len; have := hS.sizes.cap; unfold maxLen at *; omega
    have hn2 : lenF m ≤ 9223372036854775807 := by have := hT.sizes.len; have := hT.sizes.cap; unfold maxLen at *; omega
    clear hS hT ih
    obtain ⟨xn, xs⟩ := x
    obtain ⟨yn, ys⟩ := y
    cases h1 : (xn.toList == yn.toList)
    · have e : Hid (exN (xn, xs) (yn, ys) l m = false) := by show _ = _; unfold exN; rw [h1]; rfl
      have hd : ¬ (xn.toList = yn.toList) := by simpa using h1
      go_enter Try.func12, Try.ntmps12
      go_wp2
      go_ret
      exact ⟨by rw [e.out]; rfl, PA.out.low⟩
    · cases h2 : (xs == ys)
      · have e : Hid (exN (xn, xs) (yn, ys) l m = false) := by show _ = _; unfold exN; rw [h1, h2]; rfl
        have h2' : (xs != ys) = true := by simpa using h2
        go_enter Try.func12, Try.ntmps12
        go_wp2
        go_ret
        exact ⟨by rw [e.out]; rfl, PA.out.low⟩
      · obtain rfl : xs = ys := by simpa using h2
        cases h3 : (lenF l == lenF m)
        · have e : Hid (exN (xn, xs) (yn, xs) l m = false) := by show _ = _; unfold exN; rw [h3]; simp
          have h3' : ((lenF l : Int) != (lenF m : Int)) = true := by simp at h3 ⊢; omega
          clear h2 h3
          go_enter Try.func12, Try.ntmps12
          go_wp2
          go_ret
          exact ⟨by rw [e.out]; rfl, PA.out.low⟩
        · have e : Hid (exN (xn, xs) (yn, xs) l m = exF l m) := by show _ = _; unfold exN; rw [h1, h2, h3]; rfl
          have h3' : lenF m = lenF l := by simp at h3; omega
          have HLen : Hid (lenF m = lenF l) := h3'
          rw [h3'] at PA
          dsimp only
          rw [h3']
          clear h2 h3 h3' hn2
          go_enter Try.func12, Try.ntmps12
          go_wp2
          go_loopw [5, 6] (fun i _ wr => ∃ j : Nat, j ≤ lenF l ∧ i = .int .i64 j ∧ Pair w (xn, xs) a (lenF l) c (yn, xs) b (lenF l) d wr ∧ exF (dropF j l) (dropF j m) = exF l m) (fun i _ _ => lenF l - (intOf i).toNat)
          case atStart => exact ⟨0, Nat.zero_le _, rfl, PA.out, by rw [drop_zero, drop_zero]⟩
          case round =>
            obtain ⟨j, hj, rfl, hP, hex⟩ := hrel
            have HX : Hid (exF (dropF j l) (dropF j m) = exF l m) := hex
            clear hex
            have t2 := hP.l.c2
            by_cases hlt : j < lenF l
            · obtain ⟨b1, o1, rfl, hk1⟩ := HS.out.args.get (by omega)
              obtain ⟨bb, oo, rfl, hkk⟩ := HT.out.args.get (by have := HLen.out; omega)
              obtain ⟨z, a1, c1, l1, kd⟩ := hk1.kid (k := j) hlt
              obtain ⟨z', a2, c2, l2, kd2⟩ := hkk.kid (k := j) (by have := HLen.out; omega)
              have kd' := kd.below hP.low
              have kd2' := kd2.below hP.low
              have HP : Hid (Pair w (xn, xs) (some ⟨b1, o1, none⟩) (lenF l) c (yn, xs) (some ⟨bb, oo, none⟩) (lenF l) d wr) := hP
              have HX2 : Hid (exF l m = (exN z z' l1 l2 && exF (dropF (j + 1) l) (dropF (j + 1) m))) := by
                obtain ⟨B1, O1, s1⟩ := kd.split
                obtain ⟨B2, O2, s2⟩ := kd2.split
                show _ = _
                rw [← HX.out, s1, s2]
                rfl
              obtain ⟨ev, hev⟩ : ∃ ev, exN z z' l1 l2 = ev := ⟨_, rfl⟩
              have hC : Hid (∀ w', Below wr.heap.size wr w' → Calls Try.prog 12 #[.agg #[.string z.1, .int .i64 z.2, .slice a1 (lenF l1) c1], .agg #[.string z'.1, .int .i64 z'.2, .slice a2 (lenF l2) c2]] w' fun e w'' => e = .returned (.bool ev) ∧ Below w'.heap.size w' w'') := fun w' hb => by
                have := IH.out (nodesF l1) (by have := kd.less; omega) z z' l1 l2 a1 a2 c1 c2 w' (Nat.le_refl _) (kd'.at_.below hb) (kd2'.at_.below hb)
                rw [hev] at this
                exact this
              rw [hev] at HX2
              have hne := later_some wr
              have d0 := later_cell hP.l.c2
              have d1 := later_cell hP.r.c2
              have p0 := later_cell kd'.name; have p1 := later_cell kd'.sym; have p2 := later_cell kd'.list
              have q0 := later_cell kd2'.name; have q1 := later_cell kd2'.sym; have q2 := later_cell kd2'.list
              have hk0 : (0 : Int) ≤ (j : Int) := by omega
              have hkn : (j : Int) < (lenF l : Int) := by omega
              clear kd kd2 kd' kd2' hk1 hkk hP hev
              go_wp2_with fail
              refine wp_region_later (by kernel_rfl) (by kernel_rfl) ?_
              repeat (go_big_quiet_step ((refine calls_later (hC.out _ ?_); exact Later.below _)))
              refine wpQuiet_nil ?_
              intro _ hw'
              obtain ⟨b2, hw''⟩ := hw'
              subst hw''
              have HP2 : Hid (Pair w (xn, xs) (some ⟨b1, o1, none⟩) (lenF l) c (yn, xs) (some ⟨bb, oo, none⟩) (lenF l) d b2.now) := HP.out.below b2.below
              clear d0 d1 p0 p1 p2 q0 q1 q2 t2
              cases ev with
              | true =>
                go_wp2
                go_roundw
                case rel => exact ⟨j + 1, by omega, by go_num, HP2.out, by rw [HX2.out]; simp⟩
                case measure => simp [intOf]; omega
              | false =>
                go_wp2
                go_ret
                exact ⟨by rw [e.out, HX2.out]; rfl, HP2.out.low⟩
            · obtain rfl : j = lenF l := by omega
              have hX3 : Hid (exF l m = true) := by show _ = _; rw [← HX.out, drop_end]; rfl
              go_wp2
              go_ret
              exact ⟨by rw [e.out, hX3.out]; rfl, hP.low⟩
set_option maxRecDepth 100000 in
theorem rexact_any (x y : Tn) (a b : Option Addr) (c d : Nat) (w : World) (hS : TmAt w x.1 a c x.2) (hT : TmAt w y.1 b d y.2) :
    Calls Try.prog 12 #[.agg #[.string x.1.1, .int .i64 x.1.2, .slice a (lenF x.2) c], .agg #[.string y.1.1, .int .i64 y.1.2, .slice b (lenF y.2) d]] w fun e w' => e = .returned (.bool (exN x.1 y.1 x.2 y.2)) ∧ Below w.heap.size w w' :=
  rexact_all _ x.1 y.1 x.2 y.2 a b c d w (Nat.le_refl _) hS hT
end Go.Proofs.Ytkcbhbkldcebiaa

namespace Go.Proofs.Ytkcbhbkldcebiaa
open Go.RowKit Go.Deep

/-- How whole ends, and what it does not touch. -/
def WholeFr (B : Nat) (sg : Value) (s : ByteArray) (b : Nat) (tv : Value) (ks : List Kv) (w : World) (res : Except (Int × Nat) (Fo × Nat)) (e : Ending) (w' : World) : Prop := (match res with
    | .error p => e = faultP p.1 p.2
    | .ok (F, k') => ∃ (k : Kv) (tv' : Value), F = .node 0 0 k.x k.l .nil ∧ e = .returned (.agg #[.string k.x.1, .int .i64 k.x.2, .slice k.a (lenF k.l) k.c]) ∧ RdBox w' B sg s k' tv' ∧ Lst b w' tv' (ks ++ [k]) ∧ (∀ q, q < w.heap.size → q ≠ B → some q ≠ tv.ownBlock → w'.heap[q]? = w.heap[q]?)) ∧ Below B w w'
theorem note_leaf2 {w W3 w4 : World} {B b g cap k' N : Nat} {sg tv tv4 : Value} {s : ByteArray} {ks : List Kv} {k z : Kv} {o : Obj} (hF : FrB B w W3) (hL : Lst b w tv ks) (hb : B < b) (hbw : b ≤ w.heap.size) (hm : OwnTm false (fun q => w.heap.size < q) W3 k.x k.a k.c k.l)
    (hgrow : (W3.alloc o).grownBy w4 tv.ownBlock) (hat : tv.ownBlock = some g ∨ g = W3.heap.size + 1) (hown : w4.ownsRow b 28 3 (.slice (some ⟨g, 0, none⟩) (ks.length + 1) cap) (ks.length + 1) (kvCells ks ++ Kv.cells z)) (hbox : RdBox w4 B sg s k' tv4) {W5 : World}
    (hW : W5 = ((((w4.setCell ⟨g, ks.length * 3, none⟩ (.string k.x.1)).setCell ⟨g, ks.length * 3 + 1, none⟩ (.int .i64 k.x.2)).setCell ⟨g, ks.length * 3 + 2, none⟩ (.slice k.a (lenF k.l) k.c)).setCell ⟨B, 3, none⟩ (.slice (some ⟨g, 0, none⟩) (ks.length + 1) cap)) ∨
      W5 = ((((w4.setCell ⟨B, 3, none⟩ (.slice (some ⟨g, 0, none⟩) (ks.length + 1) cap)).setCell ⟨g, ks.length * 3, none⟩ (.string k.x.1)).setCell ⟨g, ks.length * 3 + 1, none⟩ (.int .i64 k.x.2)).setCell ⟨g, ks.length * 3 + 2, none⟩ (.slice k.a (lenF k.l) k.c)))
    (hX : XBox W3 N k.x (.slice k.a (lenF k.l) k.c)) (hZ : XBox W3 w.heap.size (⟨#[]⟩, 0) (.slice none 0 0)) (hN : N < W3.heap.size) (hwN : w.heap.size < N) (hBw : B < w.heap.size) :
    ∃ g' cap', (Value.slice (some ⟨g, 0, none⟩) (ks.length + 1) cap) = .slice (some ⟨g', 0, none⟩) (ks.length + 1) cap' ∧ RdBox W5 B sg s k' (.slice (some ⟨g, 0, none⟩) (ks.length + 1) cap) ∧ LstX w.heap.size b W5 (.slice (some ⟨g, 0, none⟩) (ks.length + 1) cap) (ks ++ [k]) ∧ Below B w W5 ∧ XBox W5 N k.x (.slice k.a (lenF k.l) k.c) ∧ XBox W5 w.heap.size (⟨#[]⟩, 0) (.slice none 0 0) ∧ (∀ q, q < w.heap.size → q ≠ B → some q ≠ tv.ownBlock → W5.heap[q]? = w.heap[q]?) := by
  obtain ⟨g', cap', h1, h2, h3, h4, h5, h6⟩ := note_leaf hF hL hb hbw hm hgrow hat hown hbox hW hX hZ hN hwN hBw
  have hgb : b ≤ g := (owns_cells hown rfl).1
  have hsz := hF.low.size
  refine ⟨g', cap', h1, h2, h3, h4, h5, h6, fun q hq hB hn => ?_⟩
  have hqg : q ≠ g := fun e => by
    rcases hat with h | h
    · exact hn (by rw [h, e])
    · omega
  have h7 : W5.heap[q]? = w4.heap[q]? := by
    rcases hW with rfl | rfl
    · exact (set_far hB _).trans (sets_far3 hqg _ _ _)
    · exact (sets_far3 hqg _ _ _).trans (set_far hB _)
  exact h7.trans (((hgrow.block q (by rw [World.size_alloc]; omega) hn).trans ((alloc_below0 W3 o).block q (by omega))).trans (hF.same q hq hB))

set_option maxRecDepth 100000 in
set_option maxHeartbeats 4000000 in
theorem whole_fr {w0 : World} {B : Nat} {S : Option Addr} {n cap : Nat} {l : List Sym} {s : ByteArray} (hB0 : w0.heap.size ≤ B) (hs : s.size ≤ 800) (hS : SigAt w0 S n l) (b : Nat) (hb : B < b) (k : Nat) (tv : Value) (ks : List Kv) (w : World) (hk : k ≤ s.size) (hlen : ks.length ≤ k) (hB : RdBox w B (.slice S n cap) s k tv) (hL : Below w0.heap.size w0 w) (hT : Lst b w tv ks) (hbw : b ≤ w.heap.size) :
    Calls Try.prog 32 #[.pointer (some ⟨B, 0, none⟩)] w fun e w' => WholeFr B (.slice S n cap) s b tv ks w (rdC s l false k) e w' := by
  have B0 := alloc_below0 w (.cells #[.string ⟨#[]⟩, .int .i64 0, .slice none 0 0] 28)
  have ht := term_all (tv := tv) (cap := cap) hB0 hs hS (s.size - k) k (w.alloc (.cells #[.string ⟨#[]⟩, .int .i64 0, .slice none 0 0] 28)) hk (Nat.le_refl _) (hB.below B0) (hL.trans (B0.mono hL.size))
  go_enter Try.func32, Try.ntmps32
  go_wp2_with fail
  cases hr : rdC s l false k with
  | error p =>
    rw [hr] at ht
    unfold TermEnd at ht
    dsimp only at ht
    unfold faultP at ht
    refine ht.mono ?_
    rintro e w2 ⟨rfl, hf2⟩
    go_wp2
    exact ⟨rfl, by rw [hr]; exact ⟨rfl, ((Fr.of_below B0).trans hf2).below (fun _ hk => hk ▸ Nat.le_refl _) (Nat.le_of_lt hB.lt)⟩⟩
  | ok q =>
    obtain ⟨G, k'⟩ := q
    have hk2 := rdC_to hk hr
    rw [hr] at ht
    unfold TermEnd at ht
    dsimp only at ht
    refine ht.mono ?_
    rintro e w2 ⟨⟨x, m, ta, tc, rfl, rfl, ho2, hrb2⟩, hf2⟩
    go_wp2_with fail
    have hz1 := hf2.low.size
    rw [World.size_alloc] at hz1
    obtain ⟨i0, hi, hz0, hz1', hz2⟩ := info_parts Try.info28
    have B2 := alloc_below0 w2 (.cells #[.string x.1, .int .i64 x.2, .slice ta (lenF m) tc] 28)
    have X3 : Hid (XBox (w2.alloc (.cells #[.string x.1, .int .i64 x.2, .slice ta (lenF m) tc] 28)) w2.heap.size x (.slice ta (lenF m) tc)) := World.alloc_heap_new w2 _
    have Z0 : XBox (w.alloc (.cells #[.string ⟨#[]⟩, .int .i64 0, .slice none 0 0] 28)) w.heap.size (⟨#[]⟩, 0) (.slice none 0 0) := World.alloc_heap_new w _
    have Z2 : XBox w2 w.heap.size (⟨#[]⟩, 0) (.slice none 0 0) := (hf2.same w.heap.size (by rw [World.size_alloc]; omega) (by have := hB.lt; omega)).trans Z0
    have Z3 := hid (Z2.below B2)
    have R3 := hid (hrb2.below B2)
    have F3 : Hid (FrB B w (w2.alloc (.cells #[.string x.1, .int .i64 x.2, .slice ta (lenF m) tc] 28))) := hid (((Fr.of_below B0).trans hf2).trans (Fr.of_below B2))
    have O3 : Hid (OwnTm false (fun q => w.heap.size < q) (w2.alloc (.cells #[.string x.1, .int .i64 x.2, .slice ta (lenF m) tc] 28)) x ta tc m) := hid ((ho2.mono (fun q _ hq => by rw [World.size_alloc] at hq; omega)).below B2)
    have LT := hid hT
    obtain ⟨a0, c0, htv, hcc, hcm, hrow0, hnone, hsome⟩ := row_of_owns hT.row
    have L3 : Hid (Lst b (w2.alloc (.cells #[.string x.1, .int .i64 x.2, .slice ta (lenF m) tc] 28)) tv ks) := hid (hT.fr F3.out hb)
    have hs3 : Hid ((w2.alloc (.cells #[.string x.1, .int .i64 x.2, .slice ta (lenF m) tc] 28)).heap.size = w2.heap.size + 1) := by show _ = _; rw [World.size_alloc]
    have hbB := hB.lt
    clear ht hf2 hrb2 ho2 Z0 Z2 B2 B0 hT hL hrow0 hnone hsome hB hcc hcm
    subst htv
    have HW : Hid (w.heap.size < w2.heap.size) := by show _ < _; omega
    have q3 := R3.out.c3; have f3 := R3.out.f (i := 3)
    have x0 := X3.out.c0; have x1 := X3.out.c1; have x2 := X3.out.c2
    generalize w2.alloc (.cells #[.string x.1, .int .i64 x.2, .slice ta (lenF m) tc] 28) = W3 at X3 Z3 R3 F3 O3 L3 hs3 q3 f3 x0 x1 x2 ⊢
    have BZ := alloc_below0 W3 (.cells #[.string ⟨#[]⟩, .int .i64 0, .slice none 0 0] 28)
    have x0' := (X3.out.below BZ).c0; have x1' := (X3.out.below BZ).c1; have x2' := (X3.out.below BZ).c2; have q3' := (R3.out.below BZ).c3
    clear BZ
    have hidx : ((ks.length : Nat) : Int) < (ks.length : Int) + 1 := by omega
    go_cut [13] (fun v wc => ∃ g cap', v = .slice (some ⟨g, 0, none⟩) (ks.length + 1) cap' ∧ RdBox wc B (.slice S n cap) s k' v ∧ LstX w.heap.size b wc v (ks ++ [⟨x, m, ta, tc⟩]) ∧ Below B w wc ∧ XBox wc w2.heap.size x (.slice ta (lenF m) tc) ∧ XBox wc w.heap.size (⟨#[]⟩, 0) (.slice none 0 0) ∧ (∀ q, q < w.heap.size → q ≠ B → some q ≠ (Value.slice a0 ks.length c0).ownBlock → wc.heap[q]? = w.heap[q]?))
    case first =>
      go_region_law (refine step_append_lies _ (by rfl) (.tmp 9) (.tmp 12) 26 (by rfl) b 28 i0 _ 3 48 Try.underlying26 hi hz0 hz1' hz2 rfl (by decide) (.slice a0 ks.length c0) ks.length (kvCells ks) (by rfl) (owns_below L3.out.row ((Below.refl _ W3).alloc (Nat.le_refl _) _).drew) ⟨W3.heap.size, 0, none⟩ 1 1 (Kv.cells ⟨(⟨#[]⟩, 0), .nil, none, 0⟩) (by rfl) rfl (World.news_of_block (heap_alloc_new W3 _)) (kv_one _) (by decide) (by unfold maxLen; omega) (by omega) (by simp; have := hs3.out; have := HW.out; omega) _ rfl ?_; intro g4 cap4 w4 hown4 hgrow4 hat4 hlt4; have hg4 : b ≤ g4 := (owns_cells hown4 rfl).1; have hgB : ¬ g4 = B := (by omega); have hBg : ¬ B = g4 := fun e => hgB e.symm; have R4 : Hid (RdBox w4 B (.slice S n cap) s k' (.slice a0 ks.length c0)) := hid ((hgrow4.block B (by have := hs3.out; have := HW.out; simp; omega) (fun e => by have := (owns_cells L3.out.row e.symm).1; omega)).trans (R3.out.below (alloc_below0 W3 _).drew)); have r3 := R4.out.c3; have rf3 := R4.out.f (i := 3); have z0 : w4.cell? ⟨g4, ks.length * 3, none⟩ = some (.string ⟨#[]⟩) := owns_slot hown4 0 (by simp [Kv.cells]); have z1 : w4.cell? ⟨g4, ks.length * 3 + 1, none⟩ = some (.int .i64 0) := owns_slot hown4 1 (by simp [Kv.cells]); have z2 : w4.cell? ⟨g4, ks.length * 3 + 2, none⟩ = some (.slice none 0 0) := owns_slot hown4 2 (by simp [Kv.cells]); have y0 := hown4.frozenAt (ks.length * 3); have y1 := hown4.frozenAt (ks.length * 3 + 1); have y2 := hown4.frozenAt (ks.length * 3 + 2); have HO4 := hid hown4; have HG4 := hid (undrew hgrow4); have HA4 := hid hat4; clear hown4 hgrow4 hat4)
      all_goals (go_wp2_with fail; go_meet)
      all_goals
        refine note_leaf2 (k := ⟨x, m, ta, tc⟩) F3.out LT.out hb hbw O3.out HG4.out (HA4.out.imp id (fun e => by simpa using e)) HO4.out R4.out ?_ X3.out Z3.out (by have := hs3.out; omega) HW.out hbB
        first
          | (exact .inl (by with_reducible rfl))
          | (exact .inr (by with_reducible rfl))
    case rest =>
      obtain ⟨g, cap', rfl, hR, hLs, hlow, hX, hZ, hrst⟩ := hcut
      have HRST := hid hrst
      have HR := hid hR; have HLs := hid hLs; have HL := hid hlow; have HZ := hid hZ
      have u0 := hX.c0; have u1 := hX.c1; have u2 := hX.c2
      have z0 := hZ.c0; have z1 := hZ.c1; have z2 := hZ.c2
      have y0 := hZ.f (k := 0); have y1 := hZ.f (k := 1); have y2 := hZ.f (k := 2)
      clear hR hLs hlow hZ hX hrst X3 Z3 R3 F3 O3 L3 LT
      go_wp2
      refine bodyPost_ret (results_cell_row rfl _ _ w.heap.size 28 #[.string x.1, .int .i64 x.2, .slice ta (lenF m) tc] (0, 0) _ rfl (HZ.out.all (x := x) _) Try.underlying28 rfl Try.size28) rfl ?_
      exact ⟨⟨⟨x, m, ta, tc⟩, _, rfl, rfl, (sets_far (by omega) _ _ _).trans HR.out, HLs.out.sets _ _ _, fun q hq hB hn => (sets_far (by omega) _ _ _).trans (HRST.out q hq hB hn)⟩, sets_below HL.out (by omega) _ _ _⟩
end Go.Proofs.Ytkcbhbkldcebiaa

namespace Go.Proofs.Ytkcbhbkldcebiaa
open Go.RowKit Go.Deep

/-- An equation's box. -/
def EBox (W : World) (B : Nat) (x : ByteArray × Int) (v : Value) (y : ByteArray × Int) (u : Value) : Prop := W.heap[B]? = some (.cells #[.string x.1, .int .i64 x.2, v, .string y.1, .int .i64 y.2, u] 35 (0, 0))
theorem EBox.c {W : World} {B : Nat} {x y : ByteArray × Int} {v u : Value} (h : EBox W B x v y u) (i : Nat) (hi : i < 6 := by decide) : W.cell? ⟨B, i, none⟩ = some ((#[.string x.1, .int .i64 x.2, v, .string y.1, .int .i64 y.2, u] : Array Value)[i]'hi) := by
  simp [World.cell?, show W.heap[B]? = _ from h]
theorem EBox.f {W : World} {B : Nat} {x y : ByteArray × Int} {v u : Value} (h : EBox W B x v y u) (i : Nat) : W.frozen? ⟨B, i, none⟩ = false := by simp [World.frozen?, show W.heap[B]? = _ from h]
/-- Two terms with the sign between, as they are read. -/
def eqC (s : ByteArray) (l : List Sym) (k : Nat) : Except (Int × Nat) (Tn × Tn × Nat) := match rdC s l false k with
  | .error e => .error e
  | .ok (.nil, _) => .error (0, 0)
  | .ok (.node _ _ x m _, k1) => match wantP s k1 6 with
    | .error e => .error e
    | .ok r => match rdC s l false r.to with
      | .error e => .error e
      | .ok (.nil, _) => .error (0, 0)
      | .ok (.node _ _ y u _, k2) => .ok ((x, m), (y, u), k2)
/-- How equation ends. -/
def EqEnd (B : Nat) (sg : Value) (s : ByteArray) (w : World) (res : Except (Int × Nat) (Tn × Tn × Nat)) (e : Ending) (w' : World) : Prop := (match res with
    | .error p => e = faultP p.1 p.2
    | .ok (t, u, k') => ∃ (k j : Kv) (tv' : Value), t = k.tn ∧ u = j.tn ∧ e = .returned (.agg #[.string k.x.1, .int .i64 k.x.2, .slice k.a (lenF k.l) k.c, .string j.x.1, .int .i64 j.x.2, .slice j.a (lenF j.l) j.c]) ∧ RdBox w' B sg s k' tv' ∧ Lst (w.heap.size + 1) w' tv' [k, j] ∧ k' ≤ s.size) ∧ Below B w w'
theorem ebox_all {W : World} {B : Nat} {x y : ByteArray × Int} {v u : Value} (h : EBox W B x v y u) (x' y' : ByteArray × Int) (v' u' : Value) :
    EBox ((((((W.setCell ⟨B, 0, none⟩ (.string x'.1)).setCell ⟨B, 1, none⟩ (.int .i64 x'.2)).setCell ⟨B, 2, none⟩ v').setCell ⟨B, 3, none⟩ (.string y'.1)).setCell ⟨B, 4, none⟩ (.int .i64 y'.2)).setCell ⟨B, 5, none⟩ u') B x' v' y' u' := by
  have := block_set (k := 5) (block_set (k := 4) (block_set (k := 3) (block_set (k := 2) (block_set (k := 1) (block_set (k := 0) h (.string x'.1)) (.int .i64 x'.2)) v') (.string y'.1)) (.int .i64 y'.2)) u'
  exact this
theorem sets_far6 {W : World} {B q : Nat} (h : q ≠ B) (a b c d e f : Value) : ((((((W.setCell ⟨B, 0, none⟩ a).setCell ⟨B, 1, none⟩ b).setCell ⟨B, 2, none⟩ c).setCell ⟨B, 3, none⟩ d).setCell ⟨B, 4, none⟩ e).setCell ⟨B, 5, none⟩ f).heap[q]? = W.heap[q]? :=
  (set_far h f).trans ((set_far h e).trans ((set_far h d).trans (sets_far h a b c)))
theorem sets_low6 {n0 : Nat} {w W : World} {B : Nat} (hb : Below n0 w W) (h : n0 ≤ B) (a b c d e f : Value) : Below n0 w ((((((W.setCell ⟨B, 0, none⟩ a).setCell ⟨B, 1, none⟩ b).setCell ⟨B, 2, none⟩ c).setCell ⟨B, 3, none⟩ d).setCell ⟨B, 4, none⟩ e).setCell ⟨B, 5, none⟩ f) :=
  set_low (set_low (set_low (sets_below hb h a b c) h d) h e) h f
/-- A list under way that is not in this block. -/
theorem Lst.far {N B : Nat} {W W' : World} {v : Value} {ks : List Kv} (h : Lst B W v ks) (hv : v.ownBlock ≠ some N) (ho : ∀ k ∈ ks, OwnTm false (fun q => (B ≤ q ∧ some q ≠ v.ownBlock) ∧ q ≠ N) W k.x k.a k.c k.l) (hk : ∀ q, q ≠ N → W'.heap[q]? = W.heap[q]?) : Lst B W' v ks :=
  ⟨owns_block h.row (fun g hg => hk g (fun e => hv (by rw [hg, e]))), fun k hk' => ((ho k hk').keep (fun q hq _ => hk q hq.2)).mono (fun q _ hq => hq.1)⟩

set_option maxRecDepth 100000 in
set_option maxHeartbeats 4000000 in
theorem eq_rd {w0 : World} {B : Nat} {S : Option Addr} {n cap : Nat} {l : List Sym} {s : ByteArray} (hB0 : w0.heap.size ≤ B) (hs : s.size ≤ 800) (hS : SigAt w0 S n l) (w : World) (hB : RdBox w B (.slice S n cap) s 0 (.slice none 0 0)) (hL : Below w0.heap.size w0 w) :
    Calls Try.prog 38 #[.pointer (some ⟨B, 0, none⟩)] w fun e w' => EqEnd B (.slice S n cap) s w (eqC s l 0) e w' := by
  have B0 := alloc_below0 w (.cells #[.string ⟨#[]⟩, .int .i64 0, .slice none 0 0, .string ⟨#[]⟩, .int .i64 0, .slice none 0 0] 35)
  have E0 : EBox (w.alloc (.cells #[.string ⟨#[]⟩, .int .i64 0, .slice none 0 0, .string ⟨#[]⟩, .int .i64 0, .slice none 0 0] 35)) w.heap.size (⟨#[]⟩, 0) (.slice none 0 0) (⟨#[]⟩, 0) (.slice none 0 0) := World.alloc_heap_new w _
  have hBw := hB.lt
  have hs0 : (w.alloc (.cells #[.string ⟨#[]⟩, .int .i64 0, .slice none 0 0, .string ⟨#[]⟩, .int .i64 0, .slice none 0 0] 35)).heap.size = w.heap.size + 1 := World.size_alloc _ _
  have hc := whole_fr (cap := cap) hB0 hs hS (w.heap.size + 1) (by omega) 0 (.slice none 0 0) [] _ (Nat.zero_le _) (Nat.zero_le _) (hB.below B0) (hL.trans (B0.mono hL.size)) (Lst.nil _ _) (Nat.le_of_eq hs0.symm)
  have HC := hid hc; have HE := hid E0
  have HB0 : Hid (Below B w (w.alloc (.cells #[.string ⟨#[]⟩, .int .i64 0, .slice none 0 0, .string ⟨#[]⟩, .int .i64 0, .slice none 0 0] 35))) := hid (B0.mono (by omega))
  have HL := hid hL; have HS := hid hS
  have hsm : s.size ≤ maxLen := by unfold maxLen; omega
  obtain ⟨res, hres⟩ : ∃ res, eqC s l 0 = res := ⟨_, rfl⟩
  rw [hres]
  unfold eqC at hres
  clear hc B0 E0 hB hL hS
  go_enter Try.func38, Try.ntmps38
  go_wp2_with fail
  generalize w.alloc (.cells #[.string ⟨#[]⟩, .int .i64 0, .slice none 0 0, .string ⟨#[]⟩, .int .i64 0, .slice none 0 0] 35) = V0 at HC HE HB0 hs0 ⊢
  have hc := HC.out
  unfold WholeFr at hc
  cases hr : rdC s l false 0 with
  | error q =>
    rw [hr] at hc hres
    dsimp only at hc hres
    unfold faultP at hc
    refine hc.mono ?_
    rintro e w2 ⟨rfl, hb2⟩
    go_wp2
    exact ⟨rfl, by rw [← hres]; exact ⟨rfl, HB0.out.trans hb2⟩⟩
  | ok qq =>
    obtain ⟨F, k1⟩ := qq
    have hk1 := rdC_to (Nat.zero_le _) hr
    rw [hr] at hc hres
    dsimp only at hc
    refine hc.mono ?_
    rintro e w2 ⟨⟨⟨x, m, ta, tc⟩, tv, rfl, rfl, hrb2, hls2, hfr2⟩, hb2⟩
    dsimp only at hres ⊢
    have hz2 := hb2.size
    have B2 := alloc_below0 w2 (.cells #[.string x.1, .int .i64 x.2, .slice ta (lenF m) tc] 28)
    have T2 : XBox (w2.alloc (.cells #[.string x.1, .int .i64 x.2, .slice ta (lenF m) tc] 28)) w2.heap.size x (.slice ta (lenF m) tc) := World.alloc_heap_new w2 _
    have R2 := hrb2.below B2
    have L2 := hls2.below B2
    have E2 : EBox (w2.alloc (.cells #[.string x.1, .int .i64 x.2, .slice ta (lenF m) tc] 28)) w.heap.size (⟨#[]⟩, 0) (.slice none 0 0) (⟨#[]⟩, 0) (.slice none 0 0) := (B2.block _ (by omega)).trans ((hfr2 w.heap.size (by omega) (by omega) (by simp [Value.ownBlock])).trans HE.out)
    have hown2 : ∀ g, tv.ownBlock = some g → g < w2.heap.size ∧ w.heap.size + 1 ≤ g := fun g hg => ⟨hls2.lt hg, (owns_cells hls2.row hg).1⟩
    have HB2 : Hid (Below B w (w2.alloc (.cells #[.string x.1, .int .i64 x.2, .slice ta (lenF m) tc] 28))) := hid ((HB0.out.trans hb2).trans (B2.mono (by omega)))
    have hwt := want_rd B (.slice S n cap) tv s k1 6 _ R2 hsm hk1.2
    have HT2 := hid T2; have HE2 := hid E2; have HL2 := hid L2; have HO2 := hid hown2
    have HWT := hid hwt
    have HRS := hid hres
    clear hc hres hrb2 hls2 hfr2 hb2 B2 T2 R2 L2 E2 hown2 hwt HC HE HB0
    go_wp2_with fail
    generalize w2.alloc (.cells #[.string x.1, .int .i64 x.2, .slice ta (lenF m) tc] 28) = V2 at HT2 HE2 HL2 HB2 HWT ⊢
    have hwt := HWT.out
    cases hw : wantP s k1 6 with
    | error q =>
      have hres := HRS.out
      rw [hw] at hwt hres
      dsimp only at hwt hres
      unfold faultP at hwt
      refine hwt.mono ?_
      rintro e w3 ⟨rfl, hf3⟩
      go_wp2
      exact ⟨rfl, by rw [← hres]; exact ⟨rfl, HB2.out.trans (hf3.below (fun _ hk => hk ▸ Nat.le_refl _) (by have := HE2.out; have := HT2.out.lt; omega))⟩⟩
    | ok r =>
      have hres := HRS.out
      have hkr := want_ok hk1.2 hw
      rw [hw] at hwt hres
      dsimp only at hwt hres
      refine hwt.mono ?_
      rintro e w3 ⟨⟨rfl, hrb3⟩, hf3⟩
      have hV2 : w2.heap.size < V2.heap.size := HT2.out.lt
      have hz3 := hf3.low.size
      have T3' : XBox w3 w2.heap.size x (.slice ta (lenF m) tc) := (hf3.same _ hV2 (by omega)).trans HT2.out
      have E3' : EBox w3 w.heap.size (⟨#[]⟩, 0) (.slice none 0 0) (⟨#[]⟩, 0) (.slice none 0 0) := (hf3.same _ (by omega) (by omega)).trans HE2.out
      have L3' : Lst (w.heap.size + 1) w3 tv [⟨x, m, ta, tc⟩] := HL2.out.fr hf3 (by omega)
      have L3d : Lst (w.heap.size + 1) w3.drew tv [⟨x, m, ta, tc⟩] := ⟨L3'.row, fun k hk => OwnTm.keep (w := w3) (w' := w3.drew) (fun _ _ _ => rfl) (L3'.own k hk)⟩
      have B3 : Below B w w3 := HB2.out.trans (hf3.below (fun _ hk => hk ▸ Nat.le_refl _) (by omega))
      have hc2 := whole_fr (cap := cap) hB0 hs HS.out (w.heap.size + 1) (by omega) r.to tv [⟨x, m, ta, tc⟩] w3.drew hkr.2 (by simp; omega) hrb3 (HL.out.trans (B3.mono hB0)).drew L3d (by show _ ≤ w3.heap.size; omega)
      have hwz : w.heap.size < w3.heap.size := by omega
      have hwB : w.heap.size ≠ B := by omega
      have hwo : some w.heap.size ≠ tv.ownBlock := fun e => by have := (HO2.out _ e.symm).2; omega
      have htz : w2.heap.size < w3.heap.size := by omega
      have htB : w2.heap.size ≠ B := by omega
      have hto : some w2.heap.size ≠ tv.ownBlock := fun e => by have := (HO2.out _ e.symm).1; omega
      have HC2 := hid hc2; have T3 := hid T3'; have E3 := hid E3'; have HB3 := hid B3
      have HRS3 := hid hres
      have t0 := T3'.c0; have t1 := T3'.c1; have t2 := T3'.c2
      clear hwt hres hc2 hrb3 hf3 T3' E3' L3' L3d B3 HT2 HE2 HL2 HB2 HWT HRS
      go_wp2_with fail
      have hc2 := HC2.out
      unfold WholeFr at hc2
      cases hr2 : rdC s l false r.to with
      | error q =>
        have hres := HRS3.out
        rw [hr2] at hc2 hres
        dsimp only at hc2 hres
        unfold faultP at hc2
        have HC3 := hid hc2
        have HRS4 := hid hres
        clear hc2 hres HC2
        go_region_dies
        all_goals (try go_wp2_with fail)
        all_goals (refine HC3.out.mono ?_; rintro e w4 ⟨rfl, hb4⟩; exact ⟨rfl, by rw [← HRS4.out]; exact ⟨rfl, HB3.out.drew.trans hb4⟩⟩)
      | ok qq =>
        obtain ⟨G, k2⟩ := qq
        have hk2 := rdC_to hkr.2 hr2
        have hres := HRS3.out
        rw [hr2] at hc2 hres
        dsimp only at hc2
        have HC3 := hid hc2
        have HRS4 := hid hres
        clear hc2 hres HC2
        go_region_law ((first
          | (go_simp; go_wp2_with (go_at_call 32; refine HC3.out.mono ?_; rintro e w4 ⟨⟨⟨y, u, ua, uc⟩, tv4, rfl, rfl, hrb4, hls4, hfr4⟩, hb4⟩; have E4 : EBox w4 w.heap.size (⟨#[]⟩, 0) (.slice none 0 0) (⟨#[]⟩, 0) (.slice none 0 0) := (hfr4 w.heap.size hwz hwB hwo).trans E3.out; have T4 : XBox w4 w2.heap.size x (.slice ta (lenF m) tc) := (hfr4 w2.heap.size htz htB hto).trans T3.out; have t4a := T4.c0; have t4b := T4.c1; have t4c := T4.c2; have c0 := E4.c 0; have c1 := E4.c 1; have c2 := E4.c 2; have c3 := E4.c 3; have c4 := E4.c 4; have c5 := E4.c 5; have f0 := E4.f 0; have f1 := E4.f 1; have f2 := E4.f 2; have f3 := E4.f 3; have f4 := E4.f 4; have f5 := E4.f 5; have HE4 := hid E4; have HR4 := hid hrb4; have HL4 := hid hls4; have HB4 := hid hb4; clear E4 T4 hrb4 hls4 hfr4 hb4))
          | fail))
        all_goals
          go_wp2
          refine bodyPost_ret (results_cell_row rfl _ _ w.heap.size 35 #[.string x.1, .int .i64 x.2, .slice ta (lenF m) tc, .string y.1, .int .i64 y.2, .slice ua (lenF u) uc] (0, 0) _ rfl (ebox_all HE4.out x y (.slice ta (lenF m) tc) (.slice ua (lenF u) uc)) Try.underlying35 rfl (by kernel_rfl)) rfl ?_
          rw [← HRS4.out]
          refine ⟨⟨⟨x, m, ta, tc⟩, ⟨y, u, ua, uc⟩, _, rfl, rfl, rfl, (sets_far6 (by omega) _ _ _ _ _ _).trans HR4.out, ?_, hk2.2⟩, sets_low6 (HB3.out.drew.trans HB4.out) (by omega) _ _ _ _ _ _⟩
          have hl := HL4.out
          exact ⟨owns_block hl.row (fun g hg => sets_far6 (by have := (owns_cells hl.row hg).1; omega) _ _ _ _ _ _), fun k hk => (hl.own k hk).keep (fun q hq _ => sets_far6 (by have := hq.1; omega) _ _ _ _ _ _)⟩
end Go.Proofs.Ytkcbhbkldcebiaa

namespace Go.Proofs.Ytkcbhbkldcebiaa
open Go.RowKit Go.Deep

theorem EBox.lt {W : World} {B : Nat} {x y : ByteArray × Int} {v u : Value} (h : EBox W B x v y u) : B < W.heap.size := (Array.getElem?_eq_some_iff.1 h).1
theorem EBox.below {W W' : World} {B : Nat} {x y : ByteArray × Int} {v u : Value} (h : EBox W B x v y u) (hb : Below W.heap.size W W') : EBox W' B x v y u := (hb.block B h.lt).trans h

set_option maxRecDepth 100000 in
set_option maxHeartbeats 1000000 in
theorem catchE_fault (p q : Nat) (e : Int) (at_ : Nat) (x y : Int) (older : List PanicEntry) (w : World) (hpq : p ≠ q) (hp : w.cell? ⟨p, 0, none⟩ = some (.int .i64 x)) (hq : w.cell? ⟨q, 0, none⟩ = some (.int .i64 y)) (fp : w.frozen? ⟨p, 0, none⟩ = false) (fq : w.frozen? ⟨q, 0, none⟩ = false) :
    CallsD Try.prog 59 #[.pointer (some ⟨p, 0, none⟩), .pointer (some ⟨q, 0, none⟩)] (.panicking ({ v := .iface 96 (.agg #[.int .i64 e, .int .i64 at_]), recovered := false } :: older)) w fun r u w' =>
      r = .returned (.tuple #[]) ∧ u = .panicking ({ v := .iface 96 (.agg #[.int .i64 e, .int .i64 at_]), recovered := true } :: older) ∧ w'.cell? ⟨p, 0, none⟩ = some (.int .i64 e) ∧ w'.cell? ⟨q, 0, none⟩ = some (.int .i64 at_) ∧ Fr (fun k => k = p ∨ k = q) w w' := by
  refine callsD_of_wpS Try.func59 rfl fun c₀ cs hu => ?_
  apply wpS_seq
  apply wpS_region
  simp [wpOpsS, go_sem, recoverD, hu, Try.ntmps59, Exit.thenS]
  refine wpS_of_wp ?_
  change Code.wp _ _ _ { tmps := #[.pointer (some ⟨p, 0, none⟩), .pointer (some ⟨q, 0, none⟩), .iface 96 (.agg #[.int .i64 e, .int .i64 at_]), undef, .iface 96 (.agg #[.int .i64 e, .int .i64 at_]), undef, undef, undef, undef, undef, undef, undef, undef], defers := [] } _
  have hta : ∀ (v : Value) (w : World), (Instr.typeAssert (.iface 96 v) 20 96 false).run Try.prog w = .ok v w := fun v w => by kernel_rfl
  have B0 := alloc_below0 w (.cells #[.int .i64 e, .int .i64 at_] 96)
  have C0 : (w.alloc (.cells #[.int .i64 e, .int .i64 at_] 96)).heap[w.heap.size]? = some (.cells #[.int .i64 e, .int .i64 at_] 96 (0, 0)) := World.alloc_heap_new w _
  have k0 : (w.alloc (.cells #[.int .i64 e, .int .i64 at_] 96)).cell? ⟨w.heap.size, 0, none⟩ = some (.int .i64 e) := cell_box C0 rfl
  have k1 : (w.alloc (.cells #[.int .i64 e, .int .i64 at_] 96)).cell? ⟨w.heap.size, 1, none⟩ = some (.int .i64 at_) := cell_box C0 rfl
  have hp' := below_cell B0 _ _ hp; have hq' := below_cell B0 _ _ hq
  have hpl : p < w.heap.size := World.block_lt_of_cell? w _ hp
  have hql : q < w.heap.size := World.block_lt_of_cell? w _ hq
  have fp' : (w.alloc (.cells #[.int .i64 e, .int .i64 at_] 96)).frozen? ⟨p, 0, none⟩ = false := (World.frozen?_of_block (B0.block p hpl)).trans fp
  have fq' : (w.alloc (.cells #[.int .i64 e, .int .i64 at_] 96)).frozen? ⟨q, 0, none⟩ = false := (World.frozen?_of_block (B0.block q hql)).trans fq
  have hqp : ¬ q = p := fun h => hpq h.symm
  have n1 : ¬ w.heap.size = p := by omega
  have n2 : ¬ w.heap.size = q := by omega
  have n3 : ¬ p = w.heap.size := by omega
  have n4 : ¬ q = w.heap.size := by omega
  have FB := hid (Fr.of_below (A := fun k => k = p ∨ k = q) B0)
  clear B0 C0
  go_wp2
  generalize w.alloc (.cells #[.int .i64 e, .int .i64 at_] 96) = V0 at FB k0 k1 hp' hq' fp' fq' ⊢
  go_region
  all_goals
    have E1 : ((V0.setCell ⟨p, 0, none⟩ (.int .i64 e)).setCell ⟨q, 0, none⟩ (.int .i64 at_)).cell? ⟨p, 0, none⟩ = some (.int .i64 e) := (World.cell?_of_block (a := ⟨p, 0, none⟩) (set_far hpq _)).trans (World.cell?_setCell_same _ _ _ hp')
    have E2 : ((V0.setCell ⟨p, 0, none⟩ (.int .i64 e)).setCell ⟨q, 0, none⟩ (.int .i64 at_)).cell? ⟨q, 0, none⟩ = some (.int .i64 at_) := World.cell?_setCell_same _ _ _ ((World.cell?_of_block (a := ⟨q, 0, none⟩) (set_far hqp _)).trans hq')
    have E3 : Fr (fun k => k = p ∨ k = q) w (((V0.setCell ⟨p, 0, none⟩ (.int .i64 e)).setCell ⟨q, 0, none⟩ (.int .i64 at_)).drew) := FB.out.trans ⟨(((Below.refl _ V0).setCell (p := ⟨p, 0, none⟩) (Nat.zero_le _) _).setCell (p := ⟨q, 0, none⟩) (Nat.zero_le _) _).drew, fun k hk hn => (set_far (fun h => hn (.inr h)) _).trans (set_far (fun h => hn (.inl h)) _)⟩
    exact ⟨rfl, _, rfl, _, results_none rfl _ _ _, rfl, rfl, E1, E2, E3⟩

set_option maxRecDepth 100000 in
theorem catchE_none (p q : Nat) (w : World) :
    CallsD Try.prog 59 #[.pointer (some ⟨p, 0, none⟩), .pointer (some ⟨q, 0, none⟩)] .returning w fun r u w' => r = .returned (.tuple #[]) ∧ u = .returning ∧ w' = w := by
  refine callsD_of_wpS Try.func59 rfl fun c₀ cs hu => ?_
  apply wpS_seq
  apply wpS_region
  simp [wpOpsS, go_sem, recoverD, hu, Try.ntmps59, Exit.thenS]
  refine wpS_of_wp ?_
  change Code.wp _ _ _ { tmps := #[.pointer (some ⟨p, 0, none⟩), .pointer (some ⟨q, 0, none⟩), .nilIface, undef, .nilIface, undef, undef, undef, undef, undef, undef, undef, undef], defers := [] } _
  go_wp2
  cases c₀
  simp_all [bodyPostS, results, Try.results59]

/-- The three results' boxes. -/
theorem threeE_new (w : World) : ∃ V, (((w.alloc (.cells #[.string ⟨#[]⟩, .int .i64 0, .slice none 0 0, .string ⟨#[]⟩, .int .i64 0, .slice none 0 0] 35)).alloc (.cells #[.int .i64 0] 29)).alloc (.cells #[.int .i64 0] 3)) = V ∧ (V.cell? ⟨w.heap.size + 1, 0, none⟩ = some (.int .i64 0) ∧ V.frozen? ⟨w.heap.size + 1, 0, none⟩ = false) ∧ (V.cell? ⟨w.heap.size + 1 + 1, 0, none⟩ = some (.int .i64 0) ∧ V.frozen? ⟨w.heap.size + 1 + 1, 0, none⟩ = false) ∧ EBox V w.heap.size (⟨#[]⟩, 0) (.slice none 0 0) (⟨#[]⟩, 0) (.slice none 0 0) ∧ Below w.heap.size w V ∧ V.heap.size = w.heap.size + 3 := by
  have X1 : EBox (w.alloc (.cells #[.string ⟨#[]⟩, .int .i64 0, .slice none 0 0, .string ⟨#[]⟩, .int .i64 0, .slice none 0 0] 35)) w.heap.size (⟨#[]⟩, 0) (.slice none 0 0) (⟨#[]⟩, 0) (.slice none 0 0) := World.alloc_heap_new w _
  have h2 := World.alloc_heap_new (w.alloc (.cells #[.string ⟨#[]⟩, .int .i64 0, .slice none 0 0, .string ⟨#[]⟩, .int .i64 0, .slice none 0 0] 35)) (.cells #[.int .i64 0] 29)
  have h3 := World.alloc_heap_new ((w.alloc (.cells #[.string ⟨#[]⟩, .int .i64 0, .slice none 0 0, .string ⟨#[]⟩, .int .i64 0, .slice none 0 0] 35)).alloc (.cells #[.int .i64 0] 29)) (.cells #[.int .i64 0] 3)
  have b1 := alloc_below0 w (.cells #[.string ⟨#[]⟩, .int .i64 0, .slice none 0 0, .string ⟨#[]⟩, .int .i64 0, .slice none 0 0] 35)
  have b2 := alloc_below0 (w.alloc (.cells #[.string ⟨#[]⟩, .int .i64 0, .slice none 0 0, .string ⟨#[]⟩, .int .i64 0, .slice none 0 0] 35)) (.cells #[.int .i64 0] 29)
  have b3 := alloc_below0 ((w.alloc (.cells #[.string ⟨#[]⟩, .int .i64 0, .slice none 0 0, .string ⟨#[]⟩, .int .i64 0, .slice none 0 0] 35)).alloc (.cells #[.int .i64 0] 29)) (.cells #[.int .i64 0] 3)
  have h2' := (b3.block _ (Nat.lt_of_lt_of_eq (Nat.lt_succ_self _) (World.size_alloc _ _).symm)).trans h2
  rw [World.size_alloc] at h2 h2' h3
  rw [World.size_alloc] at h3
  refine ⟨_, rfl, ⟨cell_box h2' rfl, frozen_box h2'⟩, ⟨cell_box h3 rfl, frozen_box h3⟩, (X1.below b2).below b3, (b1.trans (b2.mono b1.size)).trans (b3.mono (b1.trans (b2.mono b1.size)).size), by rw [World.size_alloc, World.size_alloc, World.size_alloc]⟩
/-- The three results' boxes stand. -/
structure Kept3E (w W : World) : Prop where
  p : W.cell? ⟨w.heap.size + 1, 0, none⟩ = some (.int .i64 0) ∧ W.frozen? ⟨w.heap.size + 1, 0, none⟩ = false
  q : W.cell? ⟨w.heap.size + 1 + 1, 0, none⟩ = some (.int .i64 0) ∧ W.frozen? ⟨w.heap.size + 1 + 1, 0, none⟩ = false
  r : EBox W w.heap.size (⟨#[]⟩, 0) (.slice none 0 0) (⟨#[]⟩, 0) (.slice none 0 0)
  low : Below w.heap.size w W
theorem Kept3E.of {w V W : World} {o : Obj} (h1 : V.cell? ⟨w.heap.size + 1, 0, none⟩ = some (.int .i64 0) ∧ V.frozen? ⟨w.heap.size + 1, 0, none⟩ = false) (h2 : V.cell? ⟨w.heap.size + 1 + 1, 0, none⟩ = some (.int .i64 0) ∧ V.frozen? ⟨w.heap.size + 1 + 1, 0, none⟩ = false) (h3 : EBox V w.heap.size (⟨#[]⟩, 0) (.slice none 0 0) (⟨#[]⟩, 0) (.slice none 0 0)) (h4 : Below w.heap.size w V) (hs : V.heap.size = w.heap.size + 3)
    (B1 : Below V.heap.size V (V.alloc o)) (hW : Below (w.heap.size + 3) (V.alloc o) W) : Kept3E w W := by
  have hb : ∀ k, k < w.heap.size + 3 → W.heap[k]? = V.heap[k]? := fun k hk => (hW.block k hk).trans (B1.block k (by omega))
  exact ⟨⟨(World.cell?_of_block (hb (w.heap.size + 1) (by omega))).trans h1.1, (World.frozen?_of_block (hb (w.heap.size + 1) (by omega))).trans h1.2⟩, ⟨(World.cell?_of_block (hb (w.heap.size + 1 + 1) (by omega))).trans h2.1, (World.frozen?_of_block (hb (w.heap.size + 1 + 1) (by omega))).trans h2.2⟩, (hb _ (by omega)).trans h3, h4.trans ((B1.mono (by omega)).trans (hW.mono (by omega)))⟩
/-- The last statement's stores. -/
theorem eight_sets {w W : World} (h : Kept3E w W) (x y : ByteArray × Int) (v u : Value) :
    EBox ((((((((W.setCell ⟨w.heap.size, 0, none⟩ (.string x.1)).setCell ⟨w.heap.size, 1, none⟩ (.int .i64 x.2)).setCell ⟨w.heap.size, 2, none⟩ v).setCell ⟨w.heap.size, 3, none⟩ (.string y.1)).setCell ⟨w.heap.size, 4, none⟩ (.int .i64 y.2)).setCell ⟨w.heap.size, 5, none⟩ u).setCell ⟨w.heap.size + 1, 0, none⟩ (.int .i64 0)).setCell ⟨w.heap.size + 1 + 1, 0, none⟩ (.int .i64 0)) w.heap.size x v y u ∧ ((((((((W.setCell ⟨w.heap.size, 0, none⟩ (.string x.1)).setCell ⟨w.heap.size, 1, none⟩ (.int .i64 x.2)).setCell ⟨w.heap.size, 2, none⟩ v).setCell ⟨w.heap.size, 3, none⟩ (.string y.1)).setCell ⟨w.heap.size, 4, none⟩ (.int .i64 y.2)).setCell ⟨w.heap.size, 5, none⟩ u).setCell ⟨w.heap.size + 1, 0, none⟩ (.int .i64 0)).setCell ⟨w.heap.size + 1 + 1, 0, none⟩ (.int .i64 0)).cell? ⟨w.heap.size + 1, 0, none⟩ = some (.int .i64 0) ∧ ((((((((W.setCell ⟨w.heap.size, 0, none⟩ (.string x.1)).setCell ⟨w.heap.size, 1, none⟩ (.int .i64 x.2)).setCell ⟨w.heap.size, 2, none⟩ v).setCell ⟨w.heap.size, 3, none⟩ (.string y.1)).setCell ⟨w.heap.size, 4, none⟩ (.int .i64 y.2)).setCell ⟨w.heap.size, 5, none⟩ u).setCell ⟨w.heap.size + 1, 0, none⟩ (.int .i64 0)).setCell ⟨w.heap.size + 1 + 1, 0, none⟩ (.int .i64 0)).cell? ⟨w.heap.size + 1 + 1, 0, none⟩ = some (.int .i64 0) ∧
    (∀ q, w.heap.size + 3 ≤ q → ((((((((W.setCell ⟨w.heap.size, 0, none⟩ (.string x.1)).setCell ⟨w.heap.size, 1, none⟩ (.int .i64 x.2)).setCell ⟨w.heap.size, 2, none⟩ v).setCell ⟨w.heap.size, 3, none⟩ (.string y.1)).setCell ⟨w.heap.size, 4, none⟩ (.int .i64 y.2)).setCell ⟨w.heap.size, 5, none⟩ u).setCell ⟨w.heap.size + 1, 0, none⟩ (.int .i64 0)).setCell ⟨w.heap.size + 1 + 1, 0, none⟩ (.int .i64 0)).heap[q]? = W.heap[q]?) ∧ Below w.heap.size w ((((((((W.setCell ⟨w.heap.size, 0, none⟩ (.string x.1)).setCell ⟨w.heap.size, 1, none⟩ (.int .i64 x.2)).setCell ⟨w.heap.size, 2, none⟩ v).setCell ⟨w.heap.size, 3, none⟩ (.string y.1)).setCell ⟨w.heap.size, 4, none⟩ (.int .i64 y.2)).setCell ⟨w.heap.size, 5, none⟩ u).setCell ⟨w.heap.size + 1, 0, none⟩ (.int .i64 0)).setCell ⟨w.heap.size + 1 + 1, 0, none⟩ (.int .i64 0)) := by
  have a1 := (World.cell?_of_block (a := ⟨w.heap.size + 1, 0, none⟩) (sets_far6 (W := W) (B := w.heap.size) (show w.heap.size + 1 ≠ w.heap.size by omega) (.string x.1) (.int .i64 x.2) v (.string y.1) (.int .i64 y.2) u)).trans h.p.1
  have a2 := (World.cell?_of_block (a := ⟨w.heap.size + 1 + 1, 0, none⟩) (sets_far6 (W := W) (B := w.heap.size) (show w.heap.size + 1 + 1 ≠ w.heap.size by omega) (.string x.1) (.int .i64 x.2) v (.string y.1) (.int .i64 y.2) u)).trans h.q.1
  have a3 := ebox_all h.r x y v u
  have a4 : ∀ q, q ≠ w.heap.size → ((((((W.setCell ⟨w.heap.size, 0, none⟩ (.string x.1)).setCell ⟨w.heap.size, 1, none⟩ (.int .i64 x.2)).setCell ⟨w.heap.size, 2, none⟩ v).setCell ⟨w.heap.size, 3, none⟩ (.string y.1)).setCell ⟨w.heap.size, 4, none⟩ (.int .i64 y.2)).setCell ⟨w.heap.size, 5, none⟩ u).heap[q]? = W.heap[q]? := fun q hq => sets_far6 hq _ _ _ _ _ _
  have a5 : Below w.heap.size w ((((((W.setCell ⟨w.heap.size, 0, none⟩ (.string x.1)).setCell ⟨w.heap.size, 1, none⟩ (.int .i64 x.2)).setCell ⟨w.heap.size, 2, none⟩ v).setCell ⟨w.heap.size, 3, none⟩ (.string y.1)).setCell ⟨w.heap.size, 4, none⟩ (.int .i64 y.2)).setCell ⟨w.heap.size, 5, none⟩ u) := sets_low6 h.low (Nat.le_refl _) _ _ _ _ _ _
  generalize ((((((W.setCell ⟨w.heap.size, 0, none⟩ (.string x.1)).setCell ⟨w.heap.size, 1, none⟩ (.int .i64 x.2)).setCell ⟨w.heap.size, 2, none⟩ v).setCell ⟨w.heap.size, 3, none⟩ (.string y.1)).setCell ⟨w.heap.size, 4, none⟩ (.int .i64 y.2)).setCell ⟨w.heap.size, 5, none⟩ u) = W1 at a1 a2 a3 a4 a5 ⊢
  obtain ⟨b1, b2, b3⟩ := two_sets (show w.heap.size + 1 ≠ w.heap.size + 1 + 1 by omega) a1 a2
  exact ⟨(b3 _ (by omega) (by omega)).trans a3, b1, b2, fun q hq => (b3 q (by omega) (by omega)).trans (a4 q (by omega)), set_low (set_low a5 (by omega) _) (by omega) _⟩
theorem load_eq {w : World} {B : Nat} {x y : ByteArray × Int} {v u : Value} (h : EBox w B x v y u) : (loadVar 35 ⟨B, 0, none⟩).run Try.prog w = .ok (.agg #[.string x.1, .int .i64 x.2, v, .string y.1, .int .i64 y.2, u]) w :=
  run_loadVar_row w B 35 35 _ (0, 0) _ h Try.underlying35 rfl (by kernel_rfl)
/-- What text and signature are read as: the equation; or what is wrong, and where. -/
def fullE (s : ByteArray) (l : List Sym) : Except (Int × Nat) (Tn × Tn) := if 800 < s.size then .error (55, 0) else match eqC s l 0 with
  | .error e => .error e
  | .ok (t, u, k) => match endR s k with
    | .error e => .error e
    | .ok _ => if chk l t.1 t.2 = 0 then (if chk l u.1 u.2 = 0 then .ok (t, u) else .error (chk l u.1 u.2, 0)) else .error (chk l t.1 t.2, 0)
/-- How Equation ends. -/
def FullEEnd (w : World) (res : Except (Int × Nat) (Tn × Tn)) (e : Ending) (w' : World) : Prop := (match res with
    | .error q => e = .returned (.tuple #[.agg #[.string ⟨#[]⟩, .int .i64 0, .slice none 0 0, .string ⟨#[]⟩, .int .i64 0, .slice none 0 0], .int .i64 q.1, .int .i64 q.2])
    | .ok (t, u) => ∃ a c b d, e = .returned (.tuple #[.agg #[.string t.1.1, .int .i64 t.1.2, .slice a (lenF t.2) c, .string u.1.1, .int .i64 u.1.2, .slice b (lenF u.2) d], .int .i64 0, .int .i64 0]) ∧ OwnTm false (fun q => w.heap.size ≤ q) w' t.1 a c t.2 ∧ OwnTm false (fun q => w.heap.size ≤ q) w' u.1 b d u.2) ∧ Below w.heap.size w w'

set_option maxRecDepth 100000 in
set_option maxHeartbeats 4000000 in
theorem readE_long (S : Option Addr) (n cap : Nat) (s : ByteArray) (w : World) (hs : 800 < s.size) :
    Calls Try.prog 37 #[.slice S n cap, .string s, .func (.func 38) #[] #[]] w fun e w' => e = .returned (.tuple #[.agg #[.string ⟨#[]⟩, .int .i64 0, .slice none 0 0, .string ⟨#[]⟩, .int .i64 0, .slice none 0 0], .int .i64 55, .int .i64 0]) ∧ Below w.heap.size w w' := by
  have hmf : ∀ (fn : Fn) (first cap : Array Value) (w : World), (Instr.makeFunc fn first cap).run Try.prog w = .ok (.func fn first cap) w := fun _ _ _ _ => rfl
  have hs' : (800 : Int) < s.size := by omega
  go_enter_defers Try.func37, Try.ntmps37
  go_wp2
  obtain ⟨V, hV, hV1, hV2, hVz, hVl, hVs⟩ := threeE_new w
  rw [hV]
  refine door_fault (at_ := 0) rfl rfl rfl rfl (by simp [go_sem]) (catchE_fault _ _ 55 0 0 0 [] _ (by omega) hV1.1 hV2.1 hV1.2 hV2.2) (fun W' h => load_eq (h.trans hVz)) (by omega) (by omega) (Array.getElem?_eq_some_iff.1 hVz).1 (fun W' hf => ⟨rfl, ?_⟩)
  exact hVl.trans (hf.below (fun k hk => by omega) hVl.size)

set_option maxRecDepth 100000 in
set_option maxHeartbeats 4000000 in
theorem read_eq (S : Option Addr) (n cap : Nat) (l : List Sym) (s : ByteArray) (w : World) (hs : s.size ≤ 800) (hS : SigAt w S n l) :
    Calls Try.prog 37 #[.slice S n cap, .string s, .func (.func 38) #[] #[]] w fun e w' => FullEEnd w (fullE s l) e w' := by
  have hmf : ∀ (fn : Fn) (first cap : Array Value) (w : World), (Instr.makeFunc fn first cap).run Try.prog w = .ok (.func fn first cap) w := fun _ _ _ _ => rfl
  have hs' : ¬ (800 : Int) < s.size := by omega
  obtain ⟨V, hV, hV1, hV2, hVz, hVl, hVs⟩ := threeE_new w
  have B1 := alloc_below0 V (.cells #[.slice S n cap, .string s, .int .i64 0, .slice none 0 0] 98)
  have LV := hid (hVl.trans (B1.mono hVl.size))
  have R0 : RdBox (V.alloc (.cells #[.slice S n cap, .string s, .int .i64 0, .slice none 0 0] 98)) V.heap.size (.slice S n cap) s 0 (.slice none 0 0) := World.alloc_heap_new V _
  rw [hVs] at R0
  have hc := eq_rd (w0 := w) (B := w.heap.size + 3) (cap := cap) (by omega) hs hS (V.alloc (.cells #[.slice S n cap, .string s, .int .i64 0, .slice none 0 0] 98)) R0 LV.out
  have HC := hid hc
  have KE : Hid (∀ W, Below (w.heap.size + 3) (V.alloc (.cells #[.slice S n cap, .string s, .int .i64 0, .slice none 0 0] 98)) W → Kept3E w W) := hid fun W hW => Kept3E.of hV1 hV2 hVz hVl hVs B1 hW
  have hVa : Hid ((V.alloc (.cells #[.slice S n cap, .string s, .int .i64 0, .slice none 0 0] 98)).heap.size = w.heap.size + 4) := by show _ = _; rw [World.size_alloc, hVs]
  have HS := hid hS
  have hsm : s.size ≤ maxLen := by unfold maxLen; omega
  clear hc R0 B1 hV1 hV2 hVz hVl hS
  obtain ⟨res, hres⟩ : ∃ res, fullE s l = res := ⟨_, rfl⟩
  rw [hres]
  unfold fullE at hres
  rw [if_neg (by omega)] at hres
  have HRS := hid hres
  clear hres
  go_enter_defers Try.func37, Try.ntmps37
  go_wp2_with fail
  clear hV
  generalize V.alloc (.cells #[.slice S n cap, .string s, .int .i64 0, .slice none 0 0] 98) = V1 at LV HC KE hVa ⊢
  have hc := HC.out
  have hres := HRS.out
  unfold EqEnd at hc
  cases hr : eqC s l 0 with
  | error q =>
    rw [hr] at hc hres
    dsimp only at hc hres
    unfold faultP at hc
    refine hc.mono ?_
    rintro e w2 ⟨rfl, hb2⟩
    have K2 := hid (KE.out w2 hb2)
    have HR := hid hres
    clear hc hres hb2
    go_wp2
    refine door_fault rfl rfl rfl rfl (by simp [go_sem]) (catchE_fault _ _ q.1 q.2 0 0 [] _ (by omega) K2.out.p.1 K2.out.q.1 K2.out.p.2 K2.out.q.2) (fun W' h => load_eq (h.trans K2.out.r)) (by omega) (by omega) (Array.getElem?_eq_some_iff.1 K2.out.r).1 (fun W' hf => ?_)
    rw [← HR.out]
    exact ⟨rfl, K2.out.low.trans (hf.below (fun k hk => by omega) K2.out.low.size)⟩
  | ok qq =>
    obtain ⟨t1, t2, k'⟩ := qq
    rw [hr] at hc hres
    dsimp only at hc hres
    refine hc.mono ?_
    rintro e w2 ⟨⟨⟨x, m, ta, tc⟩, ⟨y, u, ua, uc⟩, tv, rfl, rfl, rfl, hrb2, hls2, hk'⟩, hb2⟩
    unfold Kv.tn at hres
    dsimp only at hres ⊢
    have hsz2 := hb2.size
    rw [hVa.out] at hsz2 hls2
    have B2 := alloc_below0 w2 (.cells #[.string x.1, .int .i64 x.2, .slice ta (lenF m) tc, .string y.1, .int .i64 y.2, .slice ua (lenF u) uc] 35)
    have X2 : Hid (EBox (w2.alloc (.cells #[.string x.1, .int .i64 x.2, .slice ta (lenF m) tc, .string y.1, .int .i64 y.2, .slice ua (lenF u) uc] 35)) w2.heap.size x (.slice ta (lenF m) tc) y (.slice ua (lenF u) uc)) := World.alloc_heap_new w2 _
    have R2 := hid (hrb2.below B2)
    have L2 := hid (hls2.below B2)
    have K2 : Hid (∀ W, Below (w2.alloc (.cells #[.string x.1, .int .i64 x.2, .slice ta (lenF m) tc, .string y.1, .int .i64 y.2, .slice ua (lenF u) uc] 35)).heap.size (w2.alloc (.cells #[.string x.1, .int .i64 x.2, .slice ta (lenF m) tc, .string y.1, .int .i64 y.2, .slice ua (lenF u) uc] 35)) W → Kept3E w W) := hid fun W hW => KE.out W (hb2.trans ((B2.mono (by omega)).trans (hW.mono (by rw [World.size_alloc]; omega))))
    have hs2 : Hid ((w2.alloc (.cells #[.string x.1, .int .i64 x.2, .slice ta (lenF m) tc, .string y.1, .int .i64 y.2, .slice ua (lenF u) uc] 35)).heap.size = w2.heap.size + 1) := by show _ = _; rw [World.size_alloc]
    have HRS2 := hid hres
    clear hc hres hb2 hrb2 hls2 B2 HC KE HRS
    go_wp2_with fail
    generalize w2.alloc (.cells #[.string x.1, .int .i64 x.2, .slice ta (lenF m) tc, .string y.1, .int .i64 y.2, .slice ua (lenF u) uc] 35) = V2 at X2 R2 L2 K2 hs2 ⊢
    have he := end_rd (w.heap.size + 3) (.slice S n cap) tv s k' V2 R2.out hsm hk'
    cases hen : endR s k' with
    | error q =>
      have hres := HRS2.out
      rw [hen] at he hres
      dsimp only at he hres
      unfold faultP at he
      refine he.mono ?_
      rintro e w3 ⟨rfl, hb3⟩
      have K3 := hid (K2.out w3 hb3)
      have HR := hid hres
      clear he hres hb3
      go_wp2
      refine door_fault rfl rfl rfl rfl (by simp [go_sem]) (catchE_fault _ _ q.1 q.2 0 0 [] _ (by omega) K3.out.p.1 K3.out.q.1 K3.out.p.2 K3.out.q.2) (fun W' h => load_eq (h.trans K3.out.r)) (by omega) (by omega) (Array.getElem?_eq_some_iff.1 K3.out.r).1 (fun W' hf => ?_)
      rw [← HR.out]
      exact ⟨rfl, K3.out.low.trans (hf.below (fun k hk => by omega) K3.out.low.size)⟩
    | ok q =>
      have hres := HRS2.out
      rw [hen] at he hres
      dsimp only at he hres
      refine he.mono ?_
      rintro e w3 ⟨rfl, hb3⟩
      have K3 : Hid (∀ W, Below w3.heap.size w3 W → Kept3E w W) := hid fun W hW => K2.out W (hb3.trans (hW.mono hb3.size))
      have X3 : Hid (EBox w3 w2.heap.size x (.slice ta (lenF m) tc) y (.slice ua (lenF u) uc)) := hid ((hb3.block _ (by have := hs2.out; omega)).trans X2.out)
      have R3 := R2.out.below hb3
      have L3 := hid (L2.out.below hb3)
      have HR := hid hres
      have hs3 : w2.heap.size + 1 ≤ w3.heap.size := by have := hb3.size; rw [hs2.out] at this; exact this
      obtain ⟨ra, rc, hrv, _, _, hrow, _, _⟩ := row_of_owns L3.out.row
      subst hrv
      have hcc := check_rd (w.heap.size + 3) S n cap l s k' [⟨x, m, ta, tc⟩, ⟨y, u, ua, uc⟩] ra rc w3 R3 (HS.out.below (K3.out w3 (Below.refl _ _)).low) hrow (by simp) (fun k hk => (L3.out.own k hk).tm)
      clear he hres hb3 hrow R3
      go_wp2_with fail
      obtain ⟨fe, hfe⟩ : ∃ fe, firstE l [⟨x, m, ta, tc⟩, ⟨y, u, ua, uc⟩] = fe := ⟨_, rfl⟩
      have hff : res = (if fe = 0 then .ok ((x, m), (y, u)) else .error (fe, 0)) := by
        have h := HR.out
        unfold firstE firstE firstE at hfe
        by_cases h1 : chk l x m = 0
        · by_cases h2 : chk l y u = 0
          · rw [if_pos h1, if_pos h2] at h
            rw [if_pos h1, if_pos h2] at hfe
            subst hfe
            rw [if_pos rfl, h]
          · rw [if_pos h1, if_neg h2] at h
            rw [if_pos h1, if_neg h2] at hfe
            subst hfe
            rw [if_neg h2, h]
        · rw [if_neg h1] at h
          rw [if_neg h1] at hfe
          subst hfe
          rw [if_neg h1, h]
      rw [hfe] at hcc
      have HFF := hid hff
      clear hfe hff HR
      by_cases hch : fe = 0
      · refine hcc.mono ?_
        rintro e w4 ⟨he4, hb4⟩
        rw [if_pos hch] at he4
        subst he4
        have K4 := K3.out w4 hb4
        have X4 : EBox w4 w2.heap.size x (.slice ta (lenF m) tc) y (.slice ua (lenF u) uc) := (hb4.block _ (by omega)).trans X3.out
        have O4 : OwnTm false (fun q => w.heap.size + 5 ≤ q) w4 x ta tc m := ((L3.out.own _ (List.mem_cons_self ..)).mono (fun q _ hq => by have := hq.1; omega)).below hb4
        have P4 : OwnTm false (fun q => w.heap.size + 5 ≤ q) w4 y ua uc u := ((L3.out.own _ (List.mem_cons_of_mem _ (List.mem_singleton.2 rfl))).mono (fun q _ hq => by have := hq.1; omega)).below hb4
        have p0 := K4.p.1; have p1 := K4.p.2; have q0 := K4.q.1; have q1 := K4.q.2
        have r0 := K4.r.c 0; have r1 := K4.r.c 1; have r2 := K4.r.c 2; have r3 := K4.r.c 3; have r4 := K4.r.c 4; have r5 := K4.r.c 5
        have z0 := K4.r.f 0; have z1 := K4.r.f 1; have z2 := K4.r.f 2; have z3 := K4.r.f 3; have z4 := K4.r.f 4; have z5 := K4.r.f 5
        have x0 := X4.c 0; have x1 := X4.c 1; have x2 := X4.c 2; have x3 := X4.c 3; have x4 := X4.c 4; have x5 := X4.c 5
        have hs4 := hb4.size
        have HK4 := hid K4; have HO4 := hid O4; have HP4 := hid P4
        have n1 : ¬ w.heap.size = w2.heap.size := by omega
        clear hcc K4 X4 O4 P4 hb4
        go_wp2
        obtain ⟨e1, e2, e3, e4, e5⟩ := eight_sets HK4.out x y (.slice ta (lenF m) tc) (.slice ua (lenF u) uc)
        refine door_done rfl rfl rfl rfl (by simp [go_sem]) (catchE_none _ _ _) (load_eq e1) e2 e3 ?_
        have hres := HFF.out
        rw [if_pos hch] at hres
        rw [hres]
        exact ⟨⟨ta, tc, ua, uc, rfl, (HO4.out.keep (fun q hq _ => e4 q (by omega))).mono (fun q _ hq => by omega), (HP4.out.keep (fun q hq _ => e4 q (by omega))).mono (fun q _ hq => by omega)⟩, e5⟩
      · refine hcc.mono ?_
        rintro e w4 ⟨he4, hb4⟩
        rw [if_neg hch] at he4
        unfold faultP at he4
        subst he4
        have K4 := hid (K3.out w4 hb4)
        clear hcc hb4
        go_wp2
        refine door_fault rfl rfl rfl rfl (by simp [go_sem]) (catchE_fault _ _ fe 0 0 0 [] _ (by omega) K4.out.p.1 K4.out.q.1 K4.out.p.2 K4.out.q.2) (fun W' h => load_eq (h.trans K4.out.r)) (by omega) (by omega) (Array.getElem?_eq_some_iff.1 K4.out.r).1 (fun W' hf => ?_)
        have hres := HFF.out
        rw [if_neg hch] at hres
        rw [hres]
        exact ⟨rfl, K4.out.low.trans (hf.below (fun k hk => by omega) K4.out.low.size)⟩
theorem readE_all (S : Option Addr) (n cap : Nat) (l : List Sym) (s : ByteArray) (w : World) (hS : SigAt w S n l) :
    Calls Try.prog 37 #[.slice S n cap, .string s, .func (.func 38) #[] #[]] w fun e w' => FullEEnd w (fullE s l) e w' := by
  by_cases hs : s.size ≤ 800
  · exact read_eq S n cap l s w hs hS
  · refine (readE_long S n cap s w (by omega)).mono ?_
    rintro e w' ⟨rfl, hb⟩
    have : fullE s l = .error (55, 0) := by unfold fullE; rw [if_pos (by omega)]
    rw [this]
    exact ⟨rfl, hb⟩
theorem ret_eq3 {fn : Func} {R : Ending → World → Prop} {a : Act} {w : World} {B : Nat} {x y : ByteArray × Int} {v u : Value} (h : fn.results = #[.cell 4 35, .tmp 5, .tmp 6]) (h4 : a.tmps.getD 4 undef = .pointer (some ⟨B, 0, none⟩))
    (hx : EBox w B x v y u) (hd : a.defers = []) (hR : R (.returned (.tuple #[.agg #[.string x.1, .int .i64 x.2, v, .string y.1, .int .i64 y.2, u], a.tmps.getD 5 undef, a.tmps.getD 6 undef])) w) : bodyPost Try.prog fn R .ret a w := by
  refine bodyPost_ret ?_ hd hR
  rw [results_cell2 h, h4]
  rw [show (asAddr (.pointer (some ⟨B, 0, none⟩))).run Try.prog w = .ok ⟨B, 0, none⟩ w from rfl]
  simp only [Result.andThen_ok, load_eq hx]
set_option maxRecDepth 100000 in
set_option maxHeartbeats 4000000 in
/-- Equation of a text. -/
theorem equation_any (S : Option Addr) (n cap : Nat) (l : List Sym) (s : ByteArray) (w : World) (hS : SigAt w S n l) :
    Calls Try.prog 13 #[.slice S n cap, .string s] w fun e w' => FullEEnd w (fullE s l) e w' := by
  have B0 := alloc_below0 w (.cells #[.string ⟨#[]⟩, .int .i64 0, .slice none 0 0, .string ⟨#[]⟩, .int .i64 0, .slice none 0 0] 35)
  have X0 : EBox (w.alloc (.cells #[.string ⟨#[]⟩, .int .i64 0, .slice none 0 0, .string ⟨#[]⟩, .int .i64 0, .slice none 0 0] 35)) w.heap.size (⟨#[]⟩, 0) (.slice none 0 0) (⟨#[]⟩, 0) (.slice none 0 0) := World.alloc_heap_new w _
  have hc := readE_all S n cap l s _ (hS.below B0)
  have HX := hid X0; have HB := hid B0; have HC := hid hc
  clear hc B0 X0 hS
  obtain ⟨res, hres⟩ : ∃ res, fullE s l = res := ⟨_, rfl⟩
  rw [hres] at HC ⊢
  clear hres
  go_enter Try.func13, Try.ntmps13
  go_wp2_with fail
  generalize w.alloc (.cells #[.string ⟨#[]⟩, .int .i64 0, .slice none 0 0, .string ⟨#[]⟩, .int .i64 0, .slice none 0 0] 35) = V0 at HX HB HC ⊢
  have hw0 := HX.out.lt
  have hc := HC.out
  unfold FullEEnd at hc
  cases res with
  | error q =>
    dsimp only at hc
    refine hc.mono ?_
    rintro e w1 ⟨rfl, hb⟩
    have X1 := HX.out.below hb
    have r0 := X1.c 0; have r1 := X1.c 1; have r2 := X1.c 2; have r3 := X1.c 3; have r4 := X1.c 4; have r5 := X1.c 5
    have z0 := X1.f 0; have z1 := X1.f 1; have z2 := X1.f 2; have z3 := X1.f 3; have z4 := X1.f 4; have z5 := X1.f 5
    have H1 := hid X1
    have L1 := hid (HB.out.trans (hb.mono HB.out.size))
    clear hc hb X1
    go_wp2
    refine ret_eq3 rfl rfl (ebox_all H1.out (⟨#[]⟩, 0) (⟨#[]⟩, 0) (.slice none 0 0) (.slice none 0 0)) rfl ?_
    exact ⟨rfl, sets_low6 L1.out (Nat.le_refl _) _ _ _ _ _ _⟩
  | ok tt =>
    obtain ⟨⟨x, m⟩, ⟨y, u⟩⟩ := tt
    dsimp only at hc
    refine hc.mono ?_
    rintro e w1 ⟨⟨ta, tc, ua, uc, rfl, ho, hp⟩, hb⟩
    have X1 := HX.out.below hb
    have r0 := X1.c 0; have r1 := X1.c 1; have r2 := X1.c 2; have r3 := X1.c 3; have r4 := X1.c 4; have r5 := X1.c 5
    have z0 := X1.f 0; have z1 := X1.f 1; have z2 := X1.f 2; have z3 := X1.f 3; have z4 := X1.f 4; have z5 := X1.f 5
    have H1 := hid X1
    have HO := hid ho; have HP := hid hp
    have L1 := hid (HB.out.trans (hb.mono HB.out.size))
    clear hc hb X1 ho hp
    go_wp2
    refine ret_eq3 rfl rfl (ebox_all H1.out x y (.slice ta (lenF m) tc) (.slice ua (lenF u) uc)) rfl ?_
    exact ⟨⟨ta, tc, ua, uc, rfl, (HO.out.keep (fun q hq _ => sets_far6 (by omega) _ _ _ _ _ _)).mono (fun q _ hq => by omega), (HP.out.keep (fun q hq _ => sets_far6 (by omega) _ _ _ _ _ _)).mono (fun q _ hq => by omega)⟩, sets_low6 L1.out (Nat.le_refl _) _ _ _ _ _ _⟩
end Go.Proofs.Ytkcbhbkldcebiaa

namespace Go.Proofs.Ytkcbhbkldcebiaa
open Go.RowKit Go.Deep

/-- Its symbol is there. -/
def InX (l : List Sym) (x : ByteArray × Int) : Prop := x.1.size = 0 → 0 ≤ x.2 ∧ x.2 < l.length
def InF (l : List Sym) : Fo → Prop
  | .nil => True
  | .node _ _ x m r => InX l x ∧ InF l m ∧ InF l r
theorem inF_kids {l : List Sym} : ∀ {m : Fo}, InF l m → ∀ t ∈ kidsL m, InX l t.1 ∧ InF l t.2
  | .nil, _, t, ht => by cases ht
  | .node _ _ x m r, ⟨h1, h2, h3⟩, t, ht => by
    rcases List.mem_cons.1 ht with rfl | ht
    · exact ⟨h1, h2⟩
    · exact inF_kids h3 t ht
/-- What is written when some of the arguments are. -/
def docT (l : List Sym) (nm : List UInt8) (ts : List Tn) : List UInt8 := nm ++ (if ts.isEmpty then [] else [40] ++ showTs l true ts)
theorem docT_snoc (l : List Sym) (nm : List UInt8) (ts : List Tn) (t : Tn) : docT l nm (ts ++ [t]) = docT l nm ts ++ (if ts.isEmpty then [40] else [44]) ++ showN l t.1 t.2 := by
  unfold docT
  have h1 : (ts ++ [t]).isEmpty = false := by cases ts <;> rfl
  rw [h1, showTs_snoc]
  cases ts with
  | nil => simp [showTs]
  | cons => simp
theorem docT_len (l : List Sym) (nm : List UInt8) : ∀ (ts us : List Tn), (docT l nm ts).length ≤ (docT l nm (ts ++ us)).length
  | ts, [] => by simp
  | ts, u :: us => by
    have h1 := docT_len l nm (ts ++ [u]) us
    rw [List.append_assoc, List.singleton_append, docT_snoc] at h1
    simp only [List.length_append] at h1 ⊢
    omega
theorem docT_take (l : List Sym) (nm : List UInt8) (ts : List Tn) (j : Nat) : (docT l nm (ts.take j)).length ≤ (docT l nm ts).length := by
  have := docT_len l nm (ts.take j) (ts.drop j)
  rwa [List.take_append_drop] at this
def RShowOk (S : Option Addr) (n cap : Nat) (l : List Sym) (z : Nat) : Prop := ∀ (x : ByteArray × Int) (m : Fo) (a : Option Addr) (c : Nat) (w : World), nodesF m < z → InX l x → InF l m → SigAt w S n l → TmAt w x a c m → (showN l x m).length ≤ 140737488355328 →
  Calls Try.prog 24 #[.slice S n cap, .agg #[.string x.1, .int .i64 x.2, .slice a (lenF m) c]] w fun e w' => (∃ o : ByteArray, e = .returned (.string o) ∧ o.data.toList = showN l x m) ∧ Below w.heap.size w w'
theorem ba_app (a b : ByteArray) : (a ++ b).data.toList = a.data.toList ++ b.data.toList := by simp [ByteArray.data_append]
theorem ba_len {a : ByteArray} {l : List UInt8} (h : a.data.toList = l) : a.size = l.length := by rw [← h]; rfl

set_option maxRecDepth 100000 in
set_option maxHeartbeats 4000000 in
theorem rshow_of {S : Option Addr} {n cap : Nat} {l : List Sym} {z : Nat} (ih : ∀ y, y < z → RShowOk S n cap l y) : RShowOk S n cap l z := by
  intro x m a c w hz hix hif hS hT hlen
  obtain ⟨tn, ts⟩ := x
  have B0 := alloc_below0 w (.cells #[.string tn, .int .i64 ts, .slice a (lenF m) c] 28)
  have X0 : Hid (XBox (w.alloc (.cells #[.string tn, .int .i64 ts, .slice a (lenF m) c] 28)) w.heap.size (tn, ts) (.slice a (lenF m) c)) := World.alloc_heap_new w _
  have L0 := hid B0
  have HT := hid hT; have HS := hid hS; have IH := hid ih; have HF := hid hif
  have x0 := X0.out.c0; have x1 := X0.out.c1; have x2 := X0.out.c2
  dsimp only at x0 x1
  clear hT hS ih B0 hif
  by_cases hx : tn.size = 0
  · have hxe : tn.toList.isEmpty = true := empty_of hx
    obtain ⟨h0, h1⟩ := hix hx
    dsimp only at h0 h1
    obtain ⟨j, rfl⟩ : ∃ j : Nat, ts = j := ⟨ts.toNat, by omega⟩
    have hj : j < l.length := by omega
    obtain ⟨hl, hm, hcells, _⟩ := HS.out
    subst hl
    unfold maxLen at hm
    obtain ⟨sb, so, rfl, hsym⟩ := hcells j hj
    have c0 := below_cell L0.out _ _ hsym.name
    obtain ⟨nm, hnm⟩ : ∃ nm, l[j].name = nm := ⟨_, rfl⟩
    rw [hnm] at c0
    have hsn : showN l (tn, (j : Int)) m = docT l nm.data.toList (kidsL m) ++ (if lenF m = 0 then [] else [41]) := by
      have e : symB l (j : Int) = nm := by
        unfold symB
        rw [if_pos (by omega)]
        rw [← hnm]
        simp [List.getD, hj]
      unfold showN docT
      dsimp only
      rw [if_pos hx, e, showF_ts]
      by_cases hm0 : lenF m = 0
      · have : m = .nil := len_nil hm0
        subst this
        simp [lenF, kidsL]
      · rw [if_neg hm0, if_neg hm0]
        have : (kidsL m).isEmpty = false := by
          cases m with
          | nil => exact absurd rfl hm0
          | node => rfl
        rw [this]
        simp
    have HSN := hid hsn
    rw [hsn, List.length_append] at hlen
    clear hsn hcells hsym hix h0 h1 hnm
    have g1 : ¬ (j : Int) < 0 := by omega
    have g2 : ¬ (l.length : Int) ≤ (j : Int) := by omega
    have g3 : (j : Int) < (l.length : Int) := by omega
    have hmx := HT.out.sizes.few
    go_enter Try.func24, Try.ntmps24
    go_wp2_with fail
    generalize w.alloc (.cells #[.string tn, .int .i64 j, .slice a (lenF m) c] 28) = V0 at X0 L0 x0 x1 x2 c0 ⊢
    have hnl : nm.size ≤ 140737488355328 := by
      have : nm.data.toList.length = nm.size := rfl
      unfold docT at hlen
      rw [List.length_append] at hlen
      omega
    go_loopw [5, 6] (fun oo ov wr => ∃ (k : Nat) (o : ByteArray), ov = .int .i64 k ∧ k ≤ lenF m ∧ oo = .string o ∧ o.data.toList = docT l nm.data.toList ((kidsL m).take k) ∧ Below V0.heap.size V0 wr) (fun _ ov _ => lenF m - (intOf ov).toNat)
    case atStart => exact ⟨0, nm, rfl, Nat.zero_le _, rfl, by simp [docT], Below.refl _ _⟩
    case round =>
      obtain ⟨k, o, rfl, hk, rfl, ho, hbr⟩ := hrel
      have HBr := hid hbr
      have LWr := hid (L0.out.trans (hbr.mono L0.out.size))
      have Xr := X0.out.below hbr
      have y0 := Xr.c0; have y1 := Xr.c1; have y2 := Xr.c2
      dsimp only at y0 y1
      clear hbr x0 x1 x2 Xr c0
      have hosz := ba_len ho
      by_cases hlt : k < lenF m
      · obtain ⟨bb, oo, rfl, hkk⟩ := HT.out.args.get (by omega)
        obtain ⟨y, a1, c1, l1, kd⟩ := hkk.kid (k := k) hlt
        have kd' := kd.below LWr.out
        have p0 := kd'.name; have p1 := kd'.sym; have p2 := kd'.list
        have hst : (kidsL m).take (k + 1) = (kidsL m).take k ++ [(y, l1)] := by obtain ⟨B', O', hs⟩ := kd.split; exact kids_take hs
        have hmem : (y, l1) ∈ kidsL m := by
          have : (y, l1) ∈ (kidsL m).take (k + 1) := by rw [hst]; simp
          exact List.mem_of_mem_take this
        obtain ⟨hiy, hil⟩ := inF_kids HF.out _ hmem
        dsimp only at hiy hil
        have hsc := docT_snoc l nm.data.toList ((kidsL m).take k) (y, l1)
        rw [← hst] at hsc
        have hln : (docT l nm.data.toList ((kidsL m).take (k + 1))).length ≤ (docT l nm.data.toList (kidsL m)).length := docT_take _ _ _ _
        have hln2 := hln
        rw [hsc] at hln2
        simp only [List.length_append] at hln2
        dsimp only at hsc hln2
        have hless := kd.less
        have HSC := hid hsc
        have HK := hid (IH.out (nodesF l1 + 1) (by omega) y l1 a1 c1 wr (Nat.lt_succ_self _) hiy hil (HS.out.below LWr.out) (kd.at_.below LWr.out) (by omega))
        clear hsc hst kd kd' hkk hmem hiy hil hln
        have HO := hid ho; have HZ := hid hosz; have HL2 := hid hln2; have HLN := hid hlen
        by_cases hk0 : k = 0
        · subst hk0
          simp only [Nat.zero_mul, Nat.add_zero] at p0 p1 p2
          have hlo : o.size + 1 + (showN l y l1).length ≤ 140737488355328 := by
            have h1 : o.size + 1 + (showN l y l1).length ≤ (docT l nm.data.toList (kidsL m)).length := by rw [hosz]; simpa using hln2
            omega
          have hlo1 : o.size ≤ 140737488355328 := by omega
          have HLO := hid hlo
          clear hosz ho hln2 hlen hlo
          go_wp2_with fail
          refine HK.out.mono ?_
          rintro e w5 ⟨⟨o5, rfl, ho5⟩, hb5⟩
          have L5 := hid (HBr.out.trans (hb5.mono HBr.out.size))
          have HO5 := hid ho5
          have hlp : (o ++ (⟨#[40]⟩ : ByteArray)).size ≤ 140737488355328 := by
            have := HLO.out
            rw [ByteArray.size_append]; show o.size + 1 ≤ _; omega
          have hlq : o5.size ≤ 140737488355328 := by
            have := HLO.out; have := ba_len ho5; omega
          clear hb5 HK ho5
          go_wp2
          go_roundw
          case rel =>
            refine ⟨1, _, by go_num, by omega, rfl, ?_, L5.out⟩
            rw [HSC.out, ba_app, ba_app, HO.out, HO5.out]
            rfl
          case measure => simp [intOf]; omega
        · have hne : ((kidsL m).take k).isEmpty = false := by
            have : ((kidsL m).take k).length = k := by rw [List.length_take, kids_len]; omega
            cases h : (kidsL m).take k with
            | nil => rw [h] at this; simp at this; omega
            | cons => rfl
          have hk1 : ¬ (k : Int) = 0 := by omega
          have hlo : o.size + 1 + (showN l y l1).length ≤ 140737488355328 := by
            rw [hne] at hln2
            have h1 : o.size + 1 + (showN l y l1).length ≤ (docT l nm.data.toList (kidsL m)).length := by rw [hosz]; simpa using hln2
            omega
          have hlo1 : o.size ≤ 140737488355328 := by omega
          have HLO := hid hlo
          have HNE := hid hne
          clear hosz ho hln2 hlen hlo hne
          go_wp2_with fail
          refine HK.out.mono ?_
          rintro e w5 ⟨⟨o5, rfl, ho5⟩, hb5⟩
          have L5 := hid (HBr.out.trans (hb5.mono HBr.out.size))
          have HO5 := hid ho5
          have hlp : (o ++ (⟨#[44]⟩ : ByteArray)).size ≤ 140737488355328 := by
            have := HLO.out
            rw [ByteArray.size_append]; show o.size + 1 ≤ _; omega
          have hlq : o5.size ≤ 140737488355328 := by
            have := HLO.out; have := ba_len ho5; omega
          clear hb5 HK ho5
          go_wp2
          go_roundw
          case rel =>
            refine ⟨k + 1, _, by go_num, by omega, rfl, ?_, L5.out⟩
            rw [HSC.out, ba_app, ba_app, HO.out, HO5.out, HNE.out]
            rfl
          case measure => simp [intOf]; omega
      · have hkl : k = (kidsL m).length := by rw [kids_len]; omega
        have ho' : o.data.toList = docT l nm.data.toList (kidsL m) := by rw [ho, hkl, List.take_length]
        have hlo1 : o.size ≤ 140737488355328 := by rw [ba_len ho']; omega
        have HO := hid ho'
        have LW := hid (L0.out.trans (HBr.out.mono L0.out.size))
        by_cases hm0 : lenF m = 0
        · have hm0' : ((lenF m : Nat) : Int) = 0 := by omega
          have HM := hid hm0
          clear ho ho' hosz hlen hm0 hkl
          go_wp2
          go_ret
          refine ⟨⟨_, rfl, ?_⟩, LW.out⟩
          rw [HSN.out, if_pos HM.out, List.append_nil]
          exact HO.out
        · have hm0' : (0 : Int) < ((lenF m : Nat) : Int) := by omega
          have HM := hid hm0
          clear ho ho' hosz hlen hm0 hkl
          go_wp2
          go_ret
          refine ⟨⟨_, rfl, ?_⟩, LW.out⟩
          rw [HSN.out, if_neg HM.out, ba_app, HO.out]
  · have hsn : showN l (tn, ts) m = tn.data.toList := by unfold showN; rw [if_neg hx]
    have hxe : tn.toList.isEmpty = false := not_empty_of hx
    go_enter Try.func24, Try.ntmps24
    go_wp2
    go_ret
    exact ⟨⟨_, rfl, hsn.symm⟩, L0.out⟩
theorem rshow_all {S : Option Addr} {n cap : Nat} {l : List Sym} : ∀ z, RShowOk S n cap l z := by
  intro z
  induction z using Nat.strongRecOn with
  | _ z ih => exact rshow_of ih
end Go.Proofs.Ytkcbhbkldcebiaa

namespace Go.Proofs.Ytkcbhbkldcebiaa
open Go.RowKit Go.Deep

/-- A variable and the term bound to it. -/
abbrev Bn := ByteArray × Tn
structure BdAt (w : World) (b o : Nat) (x : Bn) (a : Option Addr) (c : Nat) : Prop where
  var : w.cell? ⟨b, o, none⟩ = some (.string x.1)
  name : w.cell? ⟨b, o + 1, none⟩ = some (.string x.2.1.1)
  sym : w.cell? ⟨b, o + 2, none⟩ = some (.int .i64 x.2.1.2)
  list : w.cell? ⟨b, o + 3, none⟩ = some (.slice a (lenF x.2.2) c)
  tm : TmAt w x.2.1 a c x.2.2
theorem BdAt.below {w w' : World} {b o : Nat} {x : Bn} {a : Option Addr} {c : Nat} (h : BdAt w b o x a c) (hb : Below w.heap.size w w') : BdAt w' b o x a c :=
  ⟨below_cell hb _ _ h.var, below_cell hb _ _ h.name, below_cell hb _ _ h.sym, below_cell hb _ _ h.list, h.tm.below hb⟩
/-- The slice with this address and length holds these binds. -/
structure BindsAt (w : World) (p : Option Addr) (n : Nat) (l : List Bn) : Prop where
  len : n = l.length
  small : n ≤ maxLen
  cells : ∀ i (h : i < l.length), ∃ b off a c, p = some ⟨b, off, none⟩ ∧ BdAt w b (off + i * 4) l[i] a c
  fits : ∀ x ∈ l, x.1.size ≤ maxLen
theorem BindsAt.below {w w' : World} {p : Option Addr} {n : Nat} {l : List Bn} (h : BindsAt w p n l) (hb : Below w.heap.size w w') : BindsAt w' p n l :=
  ⟨h.len, h.small, fun i hi => let ⟨b, off, a, c, h1, h2⟩ := h.cells i hi; ⟨b, off, a, c, h1, h2.below hb⟩, h.fits⟩
/-- The text of binds. -/
def bindsS (l : List Sym) : Bool → List Bn → List UInt8
  | _, [] => []
  | f, x :: r => (if f then [] else [44, 32]) ++ (x.1.data.toList ++ [32, 45, 62, 32] ++ showN l x.2.1 x.2.2) ++ bindsS l false r
theorem bindsS_snoc (l : List Sym) : ∀ (f : Bool) (ts : List Bn) (t : Bn), bindsS l f (ts ++ [t]) = bindsS l f ts ++ ((if f && ts.isEmpty then [] else [44, 32]) ++ (t.1.data.toList ++ [32, 45, 62, 32] ++ showN l t.2.1 t.2.2))
  | f, [], t => by cases f <;> simp [bindsS]
  | f, s :: ts, t => by
    show (if f then [] else [44, 32]) ++ (s.1.data.toList ++ [32, 45, 62, 32] ++ showN l s.2.1 s.2.2) ++ bindsS l false (ts ++ [t]) = (if f then [] else [44, 32]) ++ (s.1.data.toList ++ [32, 45, 62, 32] ++ showN l s.2.1 s.2.2) ++ bindsS l false ts ++ _
    rw [bindsS_snoc l false ts t]
    simp [List.append_assoc]
theorem bindsS_len (l : List Sym) (f : Bool) : ∀ (ts us : List Bn), (bindsS l f ts).length ≤ (bindsS l f (ts ++ us)).length
  | ts, [] => by simp
  | ts, u :: us => by
    have h1 := bindsS_len l f (ts ++ [u]) us
    rw [List.append_assoc, List.singleton_append, bindsS_snoc] at h1
    simp only [List.length_append] at h1 ⊢
    omega
theorem bindsS_take (l : List Sym) (f : Bool) (ts : List Bn) (j : Nat) : (bindsS l f (ts.take j)).length ≤ (bindsS l f ts).length := by
  have := bindsS_len l f (ts.take j) (ts.drop j)
  rwa [List.take_append_drop] at this
theorem take_next {α : Type} {l : List α} {i : Nat} (h : i < l.length) : l.take (i + 1) = l.take i ++ [l[i]] := by
  rw [List.take_add_one, List.getElem?_eq_getElem h]; rfl
theorem ba_of {o : ByteArray} {L : List UInt8} (h : o.data.toList = L) : o = ⟨L.toArray⟩ := by
  apply ByteArray.ext
  rw [← h, Array.toArray_toList]
theorem rshow_any (S : Option Addr) (n cap : Nat) (l : List Sym) (x : ByteArray × Int) (m : Fo) (a : Option Addr) (c : Nat) (w : World) (hx : InX l x) (hm : InF l m) (hS : SigAt w S n l) (hT : TmAt w x a c m) (hlen : (showN l x m).length ≤ 140737488355328) :
    Calls Try.prog 24 #[.slice S n cap, .agg #[.string x.1, .int .i64 x.2, .slice a (lenF m) c]] w fun e w' => e = .returned (.string ⟨(showN l x m).toArray⟩) ∧ Below w.heap.size w w' := by
  refine (rshow_all (nodesF m + 1) x m a c w (Nat.lt_succ_self _) hx hm hS hT hlen).mono ?_
  rintro e w' ⟨⟨o, rfl, ho⟩, hb⟩
  exact ⟨by rw [ba_of ho], hb⟩
/-- What is written of an equation. -/
def eqS (l : List Sym) (A B : Tn) : List UInt8 := showN l A.1 A.2 ++ [32, 61, 32] ++ showN l B.1 B.2
theorem ba_list (L : List UInt8) : (⟨L.toArray⟩ : ByteArray).data.toList = L := rfl

set_option maxRecDepth 100000 in
set_option maxHeartbeats 2000000 in
theorem rshowE_any (S : Option Addr) (n cap : Nat) (l : List Sym) (A B : Tn) (a b : Option Addr) (c d : Nat) (w : World) (hA : InX l A.1 ∧ InF l A.2) (hB : InX l B.1 ∧ InF l B.2) (hS : SigAt w S n l) (tA : TmAt w A.1 a c A.2) (tB : TmAt w B.1 b d B.2) (hlen : (eqS l A B).length ≤ 140737488355328) :
    Calls Try.prog 25 #[.slice S n cap, .agg #[.string A.1.1, .int .i64 A.1.2, .slice a (lenF A.2) c, .string B.1.1, .int .i64 B.1.2, .slice b (lenF B.2) d]] w fun e w' => e = .returned (.string ⟨(eqS l A B).toArray⟩) ∧ Below w.heap.size w w' := by
  have hl : (showN l A.1 A.2).length + 3 + (showN l B.1 B.2).length ≤ 140737488355328 := by
    unfold eqS at hlen
    simp only [List.length_append, List.length_cons, List.length_nil] at hlen
    omega
  have hs : ∃ o p : ByteArray, o = ⟨(showN l A.1 A.2).toArray⟩ ∧ p = ⟨(showN l B.1 B.2).toArray⟩ := ⟨_, _, rfl, rfl⟩
  obtain ⟨o, p, ho, hp⟩ := hs
  have HA : Hid (∀ W, Below w.heap.size w W → Calls Try.prog 24 #[.slice S n cap, .agg #[.string A.1.1, .int .i64 A.1.2, .slice a (lenF A.2) c]] W fun e w' => e = .returned (.string o) ∧ Below W.heap.size W w') := hid fun W hW => by
    rw [ho]; exact rshow_any S n cap l A.1 A.2 a c W hA.1 hA.2 (hS.below hW) (tA.below hW) (by omega)
  have HB : Hid (∀ W, Below w.heap.size w W → Calls Try.prog 24 #[.slice S n cap, .agg #[.string B.1.1, .int .i64 B.1.2, .slice b (lenF B.2) d]] W fun e w' => e = .returned (.string p) ∧ Below W.heap.size W w') := hid fun W hW => by
    rw [hp]; exact rshow_any S n cap l B.1 B.2 b d W hB.1 hB.2 (hS.below hW) (tB.below hW) (by omega)
  have hoz : o.size = (showN l A.1 A.2).length := by rw [ho]; rfl
  have hpz : p.size = (showN l B.1 B.2).length := by rw [hp]; rfl
  have hsum : o.size + 3 + p.size ≤ 140737488355328 := by omega
  have hres : (⟨(eqS l A B).toArray⟩ : ByteArray) = o ++ (⟨#[32, 61, 32]⟩ : ByteArray) ++ p := by
    refine (ba_of ?_).symm
    rw [ba_app, ba_app, ho, hp, ba_list, ba_list]
    rfl
  rw [hres]
  have h1 : (o ++ (⟨#[32, 61, 32]⟩ : ByteArray)).size = o.size + 3 := by rw [ByteArray.size_append]; rfl
  have h2 : (o ++ (⟨#[32, 61, 32]⟩ : ByteArray)).size + p.size ≤ 140737488355328 := by omega
  have h3 : o.size ≤ 140737488355328 := by omega
  have h4 : p.size ≤ 140737488355328 := by omega
  have h5 : (o ++ (⟨#[32, 61, 32]⟩ : ByteArray)).size ≤ 140737488355328 := by omega
  clear hlen hl ho hp hoz hpz hsum hres h1 hS tA tB hA hB
  have B0 := alloc_below0 w (.cells #[.string A.1.1, .int .i64 A.1.2, .slice a (lenF A.2) c, .string B.1.1, .int .i64 B.1.2, .slice b (lenF B.2) d] 35)
  have hn := World.alloc_heap_new w (.cells #[.string A.1.1, .int .i64 A.1.2, .slice a (lenF A.2) c, .string B.1.1, .int .i64 B.1.2, .slice b (lenF B.2) d] 35)
  have L0 := hid B0
  clear B0
  go_enter Try.func25, Try.ntmps25
  go_upto_region 1 with fail
  generalize w.alloc (.cells #[.string A.1.1, .int .i64 A.1.2, .slice a (lenF A.2) c, .string B.1.1, .int .i64 B.1.2, .slice b (lenF B.2) d] 35) = V0 at hn L0 ⊢
  have hne := later_some V0
  have d0 := later_cell (cell_box (i := 0) hn rfl); have d1 := later_cell (cell_box (i := 1) hn rfl); have d2 := later_cell (cell_box (i := 2) hn rfl)
  have d3 := later_cell (cell_box (i := 3) hn rfl); have d4 := later_cell (cell_box (i := 4) hn rfl); have d5 := later_cell (cell_box (i := 5) hn rfl)
  have HA1 : Hid (∀ W, Below V0.heap.size V0 W → Calls Try.prog 24 #[.slice S n cap, .agg #[.string A.1.1, .int .i64 A.1.2, .slice a (lenF A.2) c]] W fun e w' => e = .returned (.string o) ∧ Below W.heap.size W w') := hid fun W hW => HA.out W (L0.out.trans (hW.mono L0.out.size))
  have HB1 : Hid (∀ W, Below V0.heap.size V0 W → Calls Try.prog 24 #[.slice S n cap, .agg #[.string B.1.1, .int .i64 B.1.2, .slice b (lenF B.2) d]] W fun e w' => e = .returned (.string p) ∧ Below W.heap.size W w') := hid fun W hW => HB.out W (L0.out.trans (hW.mono L0.out.size))
  clear HA HB hn
  refine wp_region_later (by kernel_rfl) (by kernel_rfl) ?_
  repeat (go_big_quiet_step (first | (go_at_call 24; with_reducible refine calls_later (HA1.out _ ?_); exact Later.below _) | (go_at_call 24; with_reducible refine calls_later (HB1.out _ ?_); exact Later.below _) | fail))
  refine wpQuiet_nil ?_
  intro _ hw'
  obtain ⟨b3, hw''⟩ := hw'
  subst hw''
  clear d0 d1 d2 d3 d4 d5 hne
  go_wp2
  go_ret
  exact ⟨rfl, L0.out.trans (b3.below.mono L0.out.size)⟩

set_option maxRecDepth 100000 in
set_option maxHeartbeats 4000000 in
theorem rshowB_any (S : Option Addr) (n cap : Nat) (l : List Sym) (P : Option Addr) (m pc : Nat) (bl : List Bn) (w : World) (hS : SigAt w S n l) (hP : BindsAt w P m bl) (hin : ∀ x ∈ bl, InX l x.2.1 ∧ InF l x.2.2) (hlen : (bindsS l true bl).length ≤ 140737488355328) :
    Calls Try.prog 26 #[.slice S n cap, .slice P m pc] w fun e w' => e = .returned (.string ⟨(bindsS l true bl).toArray⟩) ∧ Below w.heap.size w w' := by
  have HS := hid hS; have HP := hid hP
  have hml := hP.len
  have hsm := hP.small
  unfold maxLen at hsm
  have HLN := hid hlen; have HIN := hid hin
  clear hS hP hlen hin
  go_enter Try.func26, Try.ntmps26
  go_wp2_with fail
  go_loopw [5, 6] (fun oo ov wr => ∃ (k : Nat) (o : ByteArray), ov = .int .i64 k ∧ k ≤ m ∧ oo = .string o ∧ o.data.toList = bindsS l true (bl.take k) ∧ Below w.heap.size w wr) (fun _ ov _ => m - (intOf ov).toNat)
  case atStart => exact ⟨0, ⟨#[]⟩, rfl, Nat.zero_le _, rfl, by simp [bindsS], Below.refl _ _⟩
  case round =>
    obtain ⟨k, o, rfl, hk, rfl, ho, hbr⟩ := hrel
    have HBr := hid hbr
    have HO := hid ho
    have hosz := ba_len ho
    clear hbr ho
    by_cases hlt : k < m
    · have hkl : k < bl.length := by omega
      obtain ⟨bb, off, ta, tc, rfl, bd0⟩ := HP.out.cells k hkl
      obtain ⟨x, hx⟩ : ∃ x, bl[k] = x := ⟨_, rfl⟩
      have hst := take_next hkl
      have hmem : bl[k] ∈ bl := List.getElem_mem hkl
      obtain ⟨hi1, hi2⟩ := HIN.out _ hmem
      have hfx := HP.out.fits _ hmem
      rw [hx] at bd0 hst hi1 hi2 hfx
      have hsn := bindsS_snoc l true (bl.take k) x
      rw [← hst] at hsn
      have hln := bindsS_take l true bl (k + 1)
      have hln2 := hln
      rw [hsn] at hln2
      simp only [List.length_append, List.length_cons, List.length_nil] at hln2
      have hvz : x.1.data.toList.length = x.1.size := rfl
      rw [hvz, ← hosz] at hln2
      have bd := bd0.below HBr.out
      obtain ⟨sh, hsh⟩ : ∃ sh : ByteArray, sh = ⟨(showN l x.2.1 x.2.2).toArray⟩ := ⟨_, rfl⟩
      have hshz : sh.size = (showN l x.2.1 x.2.2).length := by rw [hsh]; rfl
      rw [← hshz] at hln2
      have hLN := HLN.out
      have HC : Hid (∀ W, Below wr.heap.size wr W → Calls Try.prog 24 #[.slice S n cap, .agg #[.string x.2.1.1, .int .i64 x.2.1.2, .slice ta (lenF x.2.2) tc]] W fun e w' => e = .returned (.string sh) ∧ Below W.heap.size W w') := hid fun W hW => by
        rw [hsh]; exact rshow_any S n cap l x.2.1 x.2.2 ta tc W hi1 hi2 ((HS.out.below HBr.out).below hW) (bd.tm.below hW) (by omega)
      have hne := later_some wr
      have e0 := later_cell bd.var; have e1 := later_cell bd.name; have e2 := later_cell bd.sym; have e3 := later_cell bd.list
      have HSN := hid hsn; have HSH := hid hsh
      by_cases hk0 : k = 0
      · subst hk0
        have hb1 : o.size + x.1.size + 4 + sh.size ≤ 140737488355328 := by
          simp at hln2; omega
        have z1 : (o ++ x.1).size = o.size + x.1.size := ByteArray.size_append
        have z2 : (o ++ x.1 ++ (⟨#[32, 45, 62, 32]⟩ : ByteArray)).size = o.size + x.1.size + 4 := by rw [ByteArray.size_append, z1]; rfl
        have y0 : o.size ≤ 140737488355328 := by omega
        have y1 : (o ++ x.1).size ≤ 140737488355328 := by omega
        have y2 : (o ++ x.1 ++ (⟨#[32, 45, 62, 32]⟩ : ByteArray)).size ≤ 140737488355328 := by omega
        have y3 : sh.size ≤ 140737488355328 := by omega
        have y4 : x.1.size ≤ 140737488355328 := by omega
        have y5 : (o ++ x.1 ++ (⟨#[32, 45, 62, 32]⟩ : ByteArray)).size + sh.size ≤ 140737488355328 := by omega
        simp only [Nat.zero_mul, Nat.add_zero] at e0 e1 e2 e3
        clear hln2 hln hsn hsh hshz hosz hvz z1 z2 hb1 bd bd0 hi1 hi2 hst hmem hx hLN hfx
        go_wp2_with fail
        refine wp_region_later (by kernel_rfl) (by kernel_rfl) ?_
        repeat (go_big_quiet_step (first | (go_at_call 24; with_reducible refine calls_later (HC.out _ ?_); exact Later.below _) | fail))
        refine wpQuiet_nil ?_
        intro _ hw'
        obtain ⟨b3, hw''⟩ := hw'
        subst hw''
        clear e0 e1 e2 e3 hne
        go_wp2
        go_roundw
        case rel =>
          refine ⟨1, _, by go_num, by omega, rfl, ?_, HBr.out.trans (b3.below.mono HBr.out.size)⟩
          rw [HSN.out, ba_app, ba_app, ba_app, HO.out, HSH.out, ba_list]
          simp [bindsS]
        case measure => simp [intOf]; omega
      · have hne2 : (true && (bl.take k).isEmpty) = false := by
          have : (bl.take k).length = k := by rw [List.length_take]; omega
          cases h : bl.take k with
          | nil => rw [h] at this; simp at this; omega
          | cons => rfl
        have hk1 : (0 : Int) < (k : Int) := by omega
        have hb1 : o.size + 2 + x.1.size + 4 + sh.size ≤ 140737488355328 := by
          rw [hne2] at hln2
          simp at hln2
          omega
        have z0 : (o ++ (⟨#[44, 32]⟩ : ByteArray)).size = o.size + 2 := by rw [ByteArray.size_append]; rfl
        have z1 : (o ++ (⟨#[44, 32]⟩ : ByteArray) ++ x.1).size = o.size + 2 + x.1.size := by rw [ByteArray.size_append, z0]
        have z2 : (o ++ (⟨#[44, 32]⟩ : ByteArray) ++ x.1 ++ (⟨#[32, 45, 62, 32]⟩ : ByteArray)).size = o.size + 2 + x.1.size + 4 := by rw [ByteArray.size_append, z1]; rfl
        have y0 : o.size ≤ 140737488355328 := by omega
        have y00 : (o ++ (⟨#[44, 32]⟩ : ByteArray)).size ≤ 140737488355328 := by omega
        have y1 : (o ++ (⟨#[44, 32]⟩ : ByteArray) ++ x.1).size ≤ 140737488355328 := by omega
        have y2 : (o ++ (⟨#[44, 32]⟩ : ByteArray) ++ x.1 ++ (⟨#[32, 45, 62, 32]⟩ : ByteArray)).size ≤ 140737488355328 := by omega
        have y3 : sh.size ≤ 140737488355328 := by omega
        have y4 : x.1.size ≤ 140737488355328 := by omega
        have HNE := hid hne2
        clear hln2 hln hsn hsh hshz hosz hvz z0 z1 z2 hb1 bd bd0 hi1 hi2 hst hmem hx hLN hfx hne2
        go_wp2_with fail
        refine wp_region_later (by kernel_rfl) (by kernel_rfl) ?_
        repeat (go_big_quiet_step (first | (go_at_call 24; with_reducible refine calls_later (HC.out _ ?_); exact Later.below _) | fail))
        refine wpQuiet_nil ?_
        intro _ hw'
        obtain ⟨b3, hw''⟩ := hw'
        subst hw''
        clear e0 e1 e2 e3 hne
        go_wp2
        go_roundw
        case rel =>
          refine ⟨k + 1, _, by go_num, by omega, rfl, ?_, HBr.out.trans (b3.below.mono HBr.out.size)⟩
          rw [HSN.out, HNE.out, ba_app, ba_app, ba_app, ba_app, HO.out, HSH.out, ba_list]
          simp
        case measure => simp [intOf]; omega
    · have hkl : k = bl.length := by omega
      have ho := HO.out
      rw [hkl, List.take_length] at ho
      have HO2 := hid (ba_of ho)
      clear ho hosz hkl
      go_wp2
      go_ret
      exact ⟨congrArg (fun o => Ending.returned (.string o)) HO2.out, HBr.out⟩
end Go.Proofs.Ytkcbhbkldcebiaa

namespace Go.Proofs.Ytkcbhbkldcebiaa
open Go.RowKit Go.Deep

set_option maxRecDepth 100000 in
set_option maxHeartbeats 4000000 in
theorem showE_any (S : Option Addr) (n cap : Nat) (l : List Sym) (A B : Tn) (a b : Option Addr) (c d : Nat) (w : World) (hS : SigAt w S n l) (tA : TmAt w A.1 a c A.2) (tB : TmAt w B.1 b d B.2) (hlen : (eqS l A B).length ≤ 140737488355328) :
    Calls Try.prog 20 #[.slice S n cap, .agg #[.string A.1.1, .int .i64 A.1.2, .slice a (lenF A.2) c, .string B.1.1, .int .i64 B.1.2, .slice b (lenF B.2) d]] w fun e w' => e = .returned (.string ⟨(eqS l A B).toArray⟩) ∧ Below w.heap.size w w' := by
  have hl : (showN l A.1 A.2).length + 3 + (showN l B.1 B.2).length ≤ 140737488355328 := by
    unfold eqS at hlen
    simp only [List.length_append, List.length_cons, List.length_nil] at hlen
    omega
  obtain ⟨o, ho⟩ : ∃ o : Obj, o = .cells #[.string A.1.1, .int .i64 A.1.2, .slice a (lenF A.2) c, .string B.1.1, .int .i64 B.1.2, .slice b (lenF B.2) d] 35 := ⟨_, rfl⟩
  have B0 := alloc_below0 w o
  have hn0 := World.alloc_heap_new w o
  have B1 := alloc_below0 (w.alloc o) (.cells #[.pointer none, .slice none 0 0] 81)
  have hn1 := World.alloc_heap_new (w.alloc o) (.cells #[.pointer none, .slice none 0 0] 81)
  have L1 := B0.trans (B1.mono B0.size)
  rw [World.size_alloc] at hn1
  have hn2 : ((w.alloc o).alloc (.cells #[.pointer none, .slice none 0 0] 81)).heap[w.heap.size]? = some o := (B1.block _ (by rw [World.size_alloc]; omega)).trans hn0
  have hI : Lib.IsBuilderF 81 5 (w.heap.size + 1) (w.heap.size + 1) (Lib.byteCells []) ((w.alloc o).alloc (.cells #[.pointer none, .slice none 0 0] 81)) := .inl (Lib.BuilderAtF.of ⟨Nat.le_refl _, .slice none 0 0, hn1, World.ownsRow_nil _ _ _ _, by simp [Value.ownBlock]⟩)
  have HW : Hid (∀ (T : Tn) (ta : Option Addr) (tc : Nat) (acc : List UInt8) (W : World), TmAt w T.1 ta tc T.2 → Below w.heap.size w W → Lib.IsBuilderF 81 5 (w.heap.size + 1) (w.heap.size + 1) (Lib.byteCells acc) W → acc.length + (showN l T.1 T.2).length ≤ 140737488355328 →
      Calls Try.prog 45 #[.pointer (some ⟨w.heap.size + 1, 0, none⟩), .slice S n cap, .agg #[.string T.1.1, .int .i64 T.1.2, .slice ta (lenF T.2) tc]] W fun e w' => e = .returned (.tuple #[]) ∧ Lib.IsBuilderF 81 5 (w.heap.size + 1) (w.heap.size + 1) (Lib.byteCells (acc ++ showN l T.1 T.2)) w' ∧ Below (w.heap.size + 1) W w' ∧ Lib.OthersKept 5 (some (w.heap.size + 1)) W w') :=
    hid fun T ta tc acc W h1 h2 h3 h4 => write_all (w0 := w) (cap := cap) (b := w.heap.size + 1) (by omega) hS (nodesF T.2 + 1) T.1 T.2 ta tc acc W (Nat.lt_succ_self _) h1 h2 h3 h4
  subst ho
  have x0 := cell_box (i := 0) hn2 rfl; have x1 := cell_box (i := 1) hn2 rfl; have x2 := cell_box (i := 2) hn2 rfl
  have HI := hid hI; have HN := hid hn2; have HL := hid L1; have TA := hid tA; have TB := hid tB; have HLN := hid hl
  clear hI hn0 hn1 hn2 B0 B1 L1 tA tB hS hlen hl
  go_enter Try.func20, Try.ntmps20
  go_wp2_with fail
  refine (HW.out A a c [] _ TA.out HL.out HI.out (by have := HLN.out; simp; omega)).mono ?_
  rintro e w2 ⟨rfl, hb2, hl2, hk2⟩
  rw [List.nil_append] at hb2
  have N2 := hid (hk2 _ _ HN.out (fun e => by have := Option.some.inj e; omega) (fun c fz e => by cases e))
  have L2 := hid (HL.out.trans (hl2.mono (by omega)))
  have HB2 := hid hb2
  clear hb2 hl2 hk2 x0 x1 x2 HN
  go_wp2_with fail
  refine (str_any (w.heap.size + 1) _ ⟨#[32, 61, 32]⟩ w2 HB2.out (by have := HLN.out; simp; omega)).mono ?_
  rintro e w3 ⟨rfl, hb3, hl3, hk3⟩
  have hn3 := hk3 _ _ N2.out (fun e => by have := Option.some.inj e; omega) (fun c fz e => by cases e)
  have L3 := hid (L2.out.trans (hl3.mono (by omega)))
  have HB3 := hid hb3
  have y0 := cell_box (i := 3) hn3 rfl; have y1 := cell_box (i := 4) hn3 rfl; have y2 := cell_box (i := 5) hn3 rfl
  clear hb3 hl3 hk3 N2 hn3
  go_wp2_with fail
  refine (HW.out B b d _ w3 TB.out L3.out HB3.out (by have := HLN.out; simp; omega)).mono ?_
  rintro e w4 ⟨rfl, hb4, hl4, hk4⟩
  have L4 := hid (L3.out.trans (hl4.mono (by omega)))
  have HB4 := hid hb4
  clear hb4 hl4 hk4 y0 y1 y2
  go_wp2_with fail
  refine (Try.Builder_String_any_k (w.heap.size + 1) (w.heap.size + 1) (eqS l A B) w4 HB4.out (Nat.le_of_lt (isB_lt HB4.out))).mono ?_
  rintro e w5 ⟨rfl, hb5, hl5, hk5⟩
  have L5 := hid (L4.out.trans (hl5.mono (by omega)))
  clear hb5 hl5 hk5
  go_wp2
  go_ret
  exact ⟨rfl, L5.out⟩

set_option maxRecDepth 100000 in
set_option maxHeartbeats 1000000 in
theorem showB_any (S : Option Addr) (n cap : Nat) (l : List Sym) (P : Option Addr) (m pc : Nat) (bl : List Bn) (w : World) (hS : SigAt w S n l) (hP : BindsAt w P m bl) (hlen : (bindsS l true bl).length ≤ 140737488355328) :
    Calls Try.prog 21 #[.slice S n cap, .slice P m pc] w fun e w' => e = .returned (.string ⟨(bindsS l true bl).toArray⟩) ∧ Below w.heap.size w w' := by
  have HP := hid hP
  have hml := hP.len
  have hsm := hP.small
  subst hml
  unfold maxLen at hsm
  have B0 := alloc_below0 w (.cells #[.pointer none, .slice none 0 0] 81)
  have hn0 := World.alloc_heap_new w (.cells #[.pointer none, .slice none 0 0] 81)
  obtain ⟨b, hb⟩ : ∃ b, b = w.heap.size := ⟨_, rfl⟩
  rw [← hb] at hn0
  have hI : Lib.IsBuilderF 81 5 b b (Lib.byteCells []) (w.alloc (.cells #[.pointer none, .slice none 0 0] 81)) := .inl (Lib.BuilderAtF.of ⟨Nat.le_refl _, .slice none 0 0, hn0, World.ownsRow_nil _ _ _ _, by simp [Value.ownBlock]⟩)
  have HW : Hid (∀ (T : Tn) (ta : Option Addr) (tc : Nat) (acc : List UInt8) (W : World), TmAt w T.1 ta tc T.2 → Below w.heap.size w W → Lib.IsBuilderF 81 5 b b (Lib.byteCells acc) W → acc.length + (showN l T.1 T.2).length ≤ 140737488355328 →
      Calls Try.prog 45 #[.pointer (some ⟨b, 0, none⟩), .slice S n cap, .agg #[.string T.1.1, .int .i64 T.1.2, .slice ta (lenF T.2) tc]] W fun e w' => e = .returned (.tuple #[]) ∧ Lib.IsBuilderF 81 5 b b (Lib.byteCells (acc ++ showN l T.1 T.2)) w' ∧ Below b W w' ∧ Lib.OthersKept 5 (some b) W w') :=
    hid fun T ta tc acc W h1 h2 h3 h4 => write_all (w0 := w) (cap := cap) (b := b) (by omega) hS (nodesF T.2 + 1) T.1 T.2 ta tc acc W (Nat.lt_succ_self _) h1 h2 h3 h4
  have HI := hid hI; have HLN := hid hlen; have L0 := hid B0
  clear hI hlen B0 hS hP hn0
  go_enter Try.func21, Try.ntmps21
  go_wp2_with fail
  rw [← hb]
  have HQ : Hid (b = w.heap.size) := hb
  clear hb
  generalize w.alloc (.cells #[.pointer none, .slice none 0 0] 81) = V0 at HI L0 ⊢
  go_loopw [6, 7, 10] (fun _ _ ov wr => ∃ k : Nat, ov = .int .i64 k ∧ k ≤ bl.length ∧ Lib.IsBuilderF 81 5 b b (Lib.byteCells (bindsS l true (bl.take k))) wr ∧ Below w.heap.size w wr) (fun _ _ ov _ => bl.length - (intOf ov).toNat)
  case atStart => exact ⟨0, rfl, Nat.zero_le _, by simpa [bindsS] using HI.out, L0.out⟩
  case round =>
    obtain ⟨k, rfl, hk, hbr, hlr⟩ := hrel
    have HBr := hid hbr; have HLr := hid hlr
    clear hbr hlr
    by_cases hlt : k < bl.length
    · have hkl : k < bl.length := by omega
      obtain ⟨bb, off, ta, tc, rfl, bd0⟩ := HP.out.cells k hkl
      obtain ⟨x, hx⟩ : ∃ x, bl[k] = x := ⟨_, rfl⟩
      have hst := take_next hkl
      rw [hx] at bd0 hst
      have hsn := bindsS_snoc l true (bl.take k) x
      rw [← hst] at hsn
      have hln := bindsS_take l true bl (k + 1)
      have hln2 := hln
      rw [hsn] at hln2
      simp only [List.length_append, List.length_cons, List.length_nil] at hln2
      have bd := bd0.below HLr.out
      have e0 := bd.var; have e1 := bd.name; have e2 := bd.sym; have e3 := bd.list
      have hLN := HLN.out
      have HSN := hid hsn
      have TX := hid bd0.tm
      have hbw := isB_lt HBr.out
      have B1 := alloc_below0 wr (.cells #[.string x.1, .string x.2.1.1, .int .i64 x.2.1.2, .slice ta (lenF x.2.2) tc] 50)
      have N1 := hid (World.alloc_heap_new wr (.cells #[.string x.1, .string x.2.1.1, .int .i64 x.2.1.2, .slice ta (lenF x.2.2) tc] 50))
      have HB1 := hid (isB_alloc HBr.out (.cells #[.string x.1, .string x.2.1.1, .int .i64 x.2.1.2, .slice ta (lenF x.2.2) tc] 50))
      have L1 : Hid (Below w.heap.size w (wr.alloc (.cells #[.string x.1, .string x.2.1.1, .int .i64 x.2.1.2, .slice ta (lenF x.2.2) tc] 50))) := hid (HLr.out.trans (B1.mono HLr.out.size))
      have z0 := cell_box (i := 0) N1.out rfl
      by_cases hk0 : k = 0
      · subst hk0
        have hb1 : x.1.size + 4 + (showN l x.2.1 x.2.2).length ≤ 140737488355328 := by
          have hvz : x.1.data.toList.length = x.1.size := rfl
          rw [hvz] at hln2
          simp at hln2
          omega
        have HLB := hid hb1
        simp only [Nat.zero_mul, Nat.add_zero] at e0 e1 e2 e3
        have HB1' : Hid (Lib.IsBuilderF 81 5 b b (Lib.byteCells []) (wr.alloc (.cells #[.string x.1, .string x.2.1.1, .int .i64 x.2.1.2, .slice ta (lenF x.2.2) tc] 50))) := by
          have h := HB1.out
          simp only [List.take_zero, bindsS] at h
          exact h
        clear hln2 hln hsn hb1 bd bd0 hst hx hLN B1 HB1
        go_wp2_with fail
        generalize wr.alloc (.cells #[.string x.1, .string x.2.1.1, .int .i64 x.2.1.2, .slice ta (lenF x.2.2) tc] 50) = V1 at N1 HB1' L1 z0 ⊢
        refine (str_any b [] x.1 V1 HB1'.out (by have := HLB.out; have : x.1.data.toList.length = x.1.size := rfl; simp only [List.length_nil]; omega)).mono ?_
        rintro e w2 ⟨rfl, hb2, hl2, hk2⟩
        have N2 := hid (hk2 _ _ N1.out (fun e => by have := Option.some.inj e; omega) (fun c fz e => by cases e))
        have L2 := hid (L1.out.trans (hl2.mono (by have := HQ.out; omega)))
        have HB2 := hid hb2
        clear hb2 hl2 hk2 z0 N1 L1 HB1'
        go_wp2_with fail
        refine (str_any b _ ⟨#[32, 45, 62, 32]⟩ w2 HB2.out (by have := HLB.out; have : x.1.data.toList.length = x.1.size := rfl; simp only [List.length_append, List.length_nil, List.length_cons]; omega)).mono ?_
        rintro e w3 ⟨rfl, hb3, hl3, hk3⟩
        have hn3 := hk3 _ _ N2.out (fun e => by have := Option.some.inj e; omega) (fun c fz e => by cases e)
        have L3 := hid (L2.out.trans (hl3.mono (by have := HQ.out; omega)))
        have HB3 := hid hb3
        have y0 := cell_box (i := 1) hn3 rfl; have y1 := cell_box (i := 2) hn3 rfl; have y2 := cell_box (i := 3) hn3 rfl
        clear hb3 hl3 hk3 N2 hn3 L2 HB2
        go_wp2_with fail
        refine (HW.out x.2 ta tc _ w3 TX.out L3.out HB3.out (by have := HLB.out; have : x.1.data.toList.length = x.1.size := rfl; simp only [List.length_append, List.length_nil, List.length_cons]; omega)).mono ?_
        rintro e w4 ⟨rfl, hb4, hl4, hk4⟩
        have L4 := hid (L3.out.trans (hl4.mono (by have := HQ.out; omega)))
        have HB4 := hid hb4
        clear hb4 hl4 hk4 y0 y1 y2
        go_wp2
        go_roundw
        case rel =>
          refine ⟨1, by go_num, by omega, ?_, L4.out⟩
          rw [HSN.out]
          simpa [bindsS] using HB4.out
        case measure => simp [intOf]; omega
      · have hne2 : (true && (bl.take k).isEmpty) = false := by
          have : (bl.take k).length = k := by rw [List.length_take]; omega
          cases h : bl.take k with
          | nil => rw [h] at this; simp at this; omega
          | cons => rfl
        have hk1 : (0 : Int) < (k : Int) := by omega
        have hb1 : (bindsS l true (bl.take k)).length + 2 + x.1.size + 4 + (showN l x.2.1 x.2.2).length ≤ 140737488355328 := by
          have hvz : x.1.data.toList.length = x.1.size := rfl
          rw [hne2, hvz] at hln2
          simp at hln2
          omega
        have HLB := hid hb1
        have HNE := hid hne2
        clear hln2 hln hsn hb1 bd bd0 hst hx hLN B1 hne2
        go_wp2_with fail
        generalize wr.alloc (.cells #[.string x.1, .string x.2.1.1, .int .i64 x.2.1.2, .slice ta (lenF x.2.2) tc] 50) = V1 at N1 HB1 L1 z0 ⊢
        refine (str_any b _ ⟨#[44, 32]⟩ V1 HB1.out (by have := HLB.out; simp only [List.length_nil, List.length_cons]; omega)).mono ?_
        rintro e w1 ⟨rfl, hb1, hl1, hk1'⟩
        have hn1 := hk1' _ _ N1.out (fun e => by have := Option.some.inj e; omega) (fun c fz e => by cases e)
        have N1b := hid hn1
        have L1b := hid (L1.out.trans (hl1.mono (by have := HQ.out; omega)))
        have HB1b := hid hb1
        have v0 := cell_box (i := 0) hn1 rfl
        clear hb1 hl1 hk1' z0 N1 L1 HB1 hn1
        go_wp2_with fail
        refine (str_any b _ x.1 w1 HB1b.out (by have := HLB.out; have : x.1.data.toList.length = x.1.size := rfl; simp only [List.length_append, List.length_nil, List.length_cons]; omega)).mono ?_
        rintro e w2 ⟨rfl, hb2, hl2, hk2⟩
        have N2 := hid (hk2 _ _ N1b.out (fun e => by have := Option.some.inj e; omega) (fun c fz e => by cases e))
        have L2 := hid (L1b.out.trans (hl2.mono (by have := HQ.out; omega)))
        have HB2 := hid hb2
        clear hb2 hl2 hk2 v0 N1b L1b HB1b
        go_wp2_with fail
        refine (str_any b _ ⟨#[32, 45, 62, 32]⟩ w2 HB2.out (by have := HLB.out; have : x.1.data.toList.length = x.1.size := rfl; simp only [List.length_append, List.length_nil, List.length_cons]; omega)).mono ?_
        rintro e w3 ⟨rfl, hb3, hl3, hk3⟩
        have hn3 := hk3 _ _ N2.out (fun e => by have := Option.some.inj e; omega) (fun c fz e => by cases e)
        have L3 := hid (L2.out.trans (hl3.mono (by have := HQ.out; omega)))
        have HB3 := hid hb3
        have y0 := cell_box (i := 1) hn3 rfl; have y1 := cell_box (i := 2) hn3 rfl; have y2 := cell_box (i := 3) hn3 rfl
        clear hb3 hl3 hk3 N2 hn3 L2 HB2
        go_wp2_with fail
        refine (HW.out x.2 ta tc _ w3 TX.out L3.out HB3.out (by have := HLB.out; have : x.1.data.toList.length = x.1.size := rfl; simp only [List.length_append, List.length_nil, List.length_cons]; omega)).mono ?_
        rintro e w4 ⟨rfl, hb4, hl4, hk4⟩
        have L4 := hid (L3.out.trans (hl4.mono (by have := HQ.out; omega)))
        have HB4 := hid hb4
        clear hb4 hl4 hk4 y0 y1 y2
        go_wp2
        go_roundw
        case rel =>
          refine ⟨k + 1, by go_num, by omega, ?_, L4.out⟩
          rw [HSN.out, HNE.out]
          simpa [List.append_assoc] using HB4.out
        case measure => simp [intOf]; omega
    · have hkl : k = bl.length := by omega
      have HBe : Hid (Lib.IsBuilderF 81 5 b b (Lib.byteCells (bindsS l true bl)) wr) := by
        have h := HBr.out
        rw [hkl, List.take_length] at h
        exact h
      clear hkl
      go_wp2_with fail
      refine (Try.Builder_String_any_k b b (bindsS l true bl) wr HBe.out (Nat.le_of_lt (isB_lt HBe.out))).mono ?_
      rintro e w5 ⟨rfl, hb5, hl5, hk5⟩
      have L5 := hid (HLr.out.trans (hl5.mono (by have := HQ.out; omega)))
      clear hb5 hl5 hk5
      go_wp2
      go_ret
      exact ⟨rfl, L5.out⟩
end Go.Proofs.Ytkcbhbkldcebiaa

namespace Go.Proofs.Ytkcbhbkldcebiaa
open Go.ChangeShapes Go.WideShapes Go.ChangeAt Go.RowKit Go.Deep

/-- Names of bounded length. -/
def SmF : Fo → Prop
  | .nil => True
  | .node _ _ x m r => x.1.size ≤ 1048576 ∧ SmF m ∧ SmF r
theorem forest_sm {H : Type} {W : World} {b : Nat} : ∀ (ds : List (DataW H × List MemPlace)) (o : Nat),
    (∀ (i : Nat) (h : i < ds.length), ∃ (p : ByteArray × Int) (a : Option Addr) (c : Nat) (l : Fo), (W.cell? ⟨b, o + i * 3, none⟩ = some (.string p.1) ∧ W.cell? ⟨b, o + i * 3 + 1, none⟩ = some (.int .i64 p.2) ∧ W.cell? ⟨b, o + i * 3 + 2, none⟩ = some (.slice a (lenF l) c)) ∧ TmAt W p a c l ∧ nodesF l + 1 ≤ Rows.uptoBulk ds[i].1 ∧ p.1.size ≤ 1048576 ∧ SmF l) →
    ∃ F : Fo, lenF F = ds.length ∧ KidsAt W F b o ∧ nodesF F ≤ Rows.uptoBulkAll (ds.map (·.1)) ∧ SmF F
  | [], o, _ => ⟨.nil, rfl, trivial, Nat.zero_le _, trivial⟩
  | d :: r, o, h => by
    obtain ⟨F, hl, hk, hn, hs⟩ := forest_sm r (o + 3) (fun i hi => by
      obtain ⟨p, a, c, l, ⟨h0, h1, h2⟩, h3, h4⟩ := h (i + 1) (by simpa using hi)
      rw [show o + (i + 1) * 3 = o + 3 + i * 3 by omega] at h0 h1 h2
      exact ⟨p, a, c, l, ⟨h0, h1, h2⟩, h3, h4⟩)
    obtain ⟨p, a, c, l, ⟨h0, h1, h2⟩, h3, h4, h5, h6⟩ := h 0 (by simp)
    simp only [Nat.zero_mul, Nat.add_zero, List.getElem_cons_zero] at h0 h1 h2 h4
    refine ⟨.node 0 0 p l F, by simp [lenF, hl], ⟨⟨a, c, h0, h1, h2, h3.sizes, h3.args⟩, hk⟩, ?_, ⟨h5, h6, hs⟩⟩
    simp only [nodesF, List.map_cons, Rows.uptoBulkAll]
    omega

set_option maxRecDepth 100000 in
theorem term_sm {H : Type} {enc : TypeId × Value → H} {W : World} : ∀ (fuel : Nat) (cs : List Value) (x : DataW H × List MemPlace), DataW.trod enc Try.prog W 0 (fun _ => true) true fuel 28 cs = some x → Rows.uptoBulk x.1 ≤ 1048576 →
    ∃ (p : ByteArray × Int) (a : Option Addr) (c : Nat) (l : Fo), cs = [.string p.1, .int .i64 p.2, .slice a (lenF l) c] ∧ TmAt W p a c l ∧ nodesF l + 1 ≤ Rows.uptoBulk x.1 ∧ p.1.size ≤ 1048576 ∧ SmF l := by
  intro fuel
  induction fuel using Nat.strongRecOn with
  | _ fuel ih =>
    intro cs x h hz
    obtain ⟨xs, n, hfuel, hx, hl, hlen, hf⟩ := DataW.trod_struct Try.underlying28 h
    rw [Try.cells28] at hl
    match xs, hlen, cs, hl with
    | [y0, y1, y2], _, [v0, v1, v2], _ =>
      have g0 := hf 0 _ rfl
      have g1 := hf 1 _ rfl
      have g2 := hf 2 _ rfl
      simp [Try.cells9, Try.cells3, Try.cells26] at g0 g1 g2
      obtain ⟨s0, e0, k0, f0⟩ := DataW.trod_string Try.underlying9 g0
      obtain ⟨n1, e1, k1, _⟩ := DataW.trod_int Try.underlying3 g1
      simp at e0 e1
      subst e0 e1 hx
      have hs0 : s0.size ≤ 1048576 := by
        simp only [List.map_cons, List.map_nil, Rows.uptoBulk, Rows.uptoBulkAll, k0] at hz
        have e : s0.data.toList.length = s0.size := rfl
        omega
      rcases DataW.trod_slice Try.underlying26 g2 with ⟨hcs, h2⟩ | ⟨ad, len, c, elems, rest, n', hn', hcs, h2, _, hlc, hcm, hlen2, hel, _, _⟩
      · simp at hcs
        subst hcs
        exact ⟨(s0, n1), none, 0, .nil, rfl, ⟨⟨f0, by simp [lenF], by simp, by simp [lenF]⟩, .inl rfl⟩, by simp [nodesF, Rows.uptoBulk, Rows.uptoBulkAll], hs0, trivial⟩
      · simp at hcs
        subst hcs
        rw [Try.cells28] at hel
        have hb2 : Rows.uptoBulkAll (elems.map (·.1)) + 1 ≤ Rows.uptoBulk (DataW.agg (List.map (·.1) [y0, y1, y2])) := by
          simp only [List.map_cons, List.map_nil, Rows.uptoBulk, Rows.uptoBulkAll, h2]; omega
        have hsub : ∀ d ∈ elems, Rows.uptoBulk d.1 ≤ 1048576 := by
          intro d hd
          have := bulk_all (List.mem_map_of_mem (f := (·.1)) hd)
          simp only at hz
          omega
        have hfew : len * 48 ≤ 140737488351232 := by
          have := bulk_len (elems.map (·.1))
          rw [List.length_map, hlen2] at this
          simp only at hz
          omega
        have each : ∀ i (hi : i < elems.length), ∃ (p : ByteArray × Int) (a : Option Addr) (c : Nat) (l : Fo), W.cells? 0 (ad.add (i * 3)) 3 = some [.string p.1, .int .i64 p.2, .slice a (lenF l) c] ∧ TmAt W p a c l ∧ nodesF l + 1 ≤ Rows.uptoBulk elems[i].1 ∧ p.1.size ≤ 1048576 ∧ SmF l := by
          intro i hi
          have h1 := hel i (by omega)
          rw [List.getElem?_eq_getElem hi] at h1
          cases hc : W.cells? 0 (ad.add (i * 3)) 3 with
          | none => rw [hc] at h1; cases h1
          | some cs' =>
            rw [hc] at h1
            obtain ⟨p, a, c, l, rfl, h3, h4⟩ := ih n' (by omega) cs' elems[i] h1 (hsub _ (List.getElem_mem hi))
            exact ⟨p, a, c, l, rfl, h3, h4⟩
        by_cases hz0 : len = 0
        · subst hz0
          exact ⟨(s0, n1), some ad, c, .nil, rfl, ⟨⟨f0, by simp [lenF], hcm, by simp [lenF]⟩, .inl rfl⟩, by simp only [nodesF]; omega, hs0, trivial⟩
        · obtain ⟨b, off, spot⟩ := ad
          have hspot : spot = none := by
            obtain ⟨p, a, c, l, h3, _⟩ := each 0 (by omega)
            obtain ⟨_, _, h30⟩ := World.cells?_some h3
            have := h30 0 (by omega)
            simpa [Addr.add] using World.cell?_spot this
          subst hspot
          obtain ⟨F, hFl, hFk, hFn, hFs⟩ := forest_sm (W := W) (b := b) elems off (fun i hi => by
            obtain ⟨p, a, c, l, h3, h4, h5⟩ := each i hi
            rw [addr_add] at h3
            obtain ⟨_, _, h30⟩ := World.cells?_some h3
            have q0 := h30 0 (by omega)
            have q1 := h30 1 (by omega)
            have q2 := h30 2 (by omega)
            rw [addr_add] at q0 q1 q2
            exact ⟨p, a, c, l, ⟨q0, q1, q2⟩, h4, h5⟩)
          have hFl' : lenF F = len := by rw [hFl, hlen2]
          exact ⟨(s0, n1), some ⟨b, off, none⟩, c, F, by rw [hFl'], ⟨⟨f0, by omega, hcm, by rw [hFl']; exact hfew⟩, .inr ⟨b, off, rfl, hFk⟩⟩, Nat.le_trans (Nat.succ_le_succ hFn) hb2, hs0, hFs⟩

theorem Try.cells50 : Try.prog.cellsOf 50 = 4 := by kernel_rfl
theorem Try.cells43 : Try.prog.cellsOf 43 = 8 := by kernel_rfl
theorem Try.cells38 : Try.prog.cellsOf 38 = 1 := by kernel_rfl
theorem Try.cells23 : Try.prog.cellsOf 23 = 1 := by kernel_rfl
set_option maxRecDepth 100000 in
/-- One bind's reading. -/
theorem bind_sm {H : Type} {enc : TypeId × Value → H} {W : World} {fuel : Nat} {cs : List Value} {x : DataW H × List MemPlace} (h : DataW.trod enc Try.prog W 0 (fun _ => true) true fuel 50 cs = some x) (hz : Rows.uptoBulk x.1 ≤ 1048576) :
    ∃ (v : ByteArray) (p : ByteArray × Int) (a : Option Addr) (c : Nat) (l : Fo), cs = [.string v, .string p.1, .int .i64 p.2, .slice a (lenF l) c] ∧ TmAt W p a c l ∧ nodesF l + 2 ≤ Rows.uptoBulk x.1 ∧ v.size ≤ 1048576 ∧ p.1.size ≤ 1048576 ∧ SmF l := by
  obtain ⟨xs, n, hfuel, hx, hl, hlen, hf⟩ := DataW.trod_struct Try.underlying50 h
  rw [Try.cells50] at hl
  match xs, hlen, cs, hl with
  | [y0, y1], _, [v0, v1, v2, v3], _ =>
    have g0 := hf 0 _ rfl
    have g1 := hf 1 _ rfl
    simp [Try.cells9, Try.cells28] at g0 g1
    obtain ⟨s0, e0, k0, f0⟩ := DataW.trod_string Try.underlying9 g0
    simp at e0
    subst e0 hx
    have hd : s0.size + 1 + Rows.uptoBulk y1.1 + 1 ≤ 1048576 ∧ s0.size + 1 + Rows.uptoBulk y1.1 + 1 ≤ Rows.uptoBulk (DataW.agg (List.map (·.1) [y0, y1])) := by
      have e : s0.data.toList.length = s0.size := rfl
      simp only [List.map_cons, List.map_nil, Rows.uptoBulk, Rows.uptoBulkAll, k0] at hz ⊢
      omega
    obtain ⟨p, a, c, l, e1, h3, h4, h5, h6⟩ := term_sm n _ _ g1 (by omega)
    simp at e1
    obtain ⟨rfl, rfl, rfl⟩ := e1
    exact ⟨s0, p, a, c, l, rfl, h3, (show nodesF l + 2 ≤ Rows.uptoBulk (DataW.agg (List.map (·.1) [y0, y1])) by omega), by omega, h5, h6⟩
/-- How much there is of binds. -/
def totB : List Bn → Nat
  | [] => 0
  | x :: r => nodesF x.2.2 + 2 + totB r
theorem binds_of {H : Type} {W : World} {b : Nat} : ∀ (ds : List (DataW H × List MemPlace)) (o : Nat),
    (∀ (i : Nat) (h : i < ds.length), ∃ (x : Bn) (a : Option Addr) (c : Nat), BdAt W b (o + i * 4) x a c ∧ nodesF x.2.2 + 2 ≤ Rows.uptoBulk ds[i].1 ∧ x.1.size ≤ 1048576 ∧ x.2.1.1.size ≤ 1048576 ∧ SmF x.2.2) →
    ∃ bl : List Bn, bl.length = ds.length ∧ (∀ i (h : i < bl.length), ∃ a c, BdAt W b (o + i * 4) bl[i] a c) ∧ totB bl ≤ Rows.uptoBulkAll (ds.map (·.1)) ∧ ∀ x ∈ bl, x.1.size ≤ 1048576 ∧ x.2.1.1.size ≤ 1048576 ∧ SmF x.2.2
  | [], o, _ => ⟨[], rfl, fun i h => absurd h (by simp), Nat.zero_le _, fun x hx => by cases hx⟩
  | d :: r, o, h => by
    obtain ⟨bl, hl, hk, hn, hs⟩ := binds_of r (o + 4) (fun i hi => by
      obtain ⟨x, a, c, h1, h2⟩ := h (i + 1) (by simpa using hi)
      rw [show o + (i + 1) * 4 = o + 4 + i * 4 by omega] at h1
      exact ⟨x, a, c, h1, h2⟩)
    obtain ⟨x, a, c, h1, h2, h3⟩ := h 0 (by simp)
    simp only [Nat.zero_mul, Nat.add_zero, List.getElem_cons_zero] at h1 h2
    refine ⟨x :: bl, by simp [hl], fun i hi => ?_, ?_, fun y hy => ?_⟩
    · cases i with
      | zero => exact ⟨a, c, by simpa using h1⟩
      | succ i =>
        obtain ⟨a', c', h4⟩ := hk i (by simpa using hi)
        refine ⟨a', c', ?_⟩
        rw [show o + (i + 1) * 4 = o + 4 + i * 4 by omega]
        simpa using h4
    · simp only [totB, List.map_cons, Rows.uptoBulkAll]
      omega
    · rcases List.mem_cons.1 hy with rfl | hy
      · exact h3
      · exact hs y hy
set_option maxRecDepth 100000 in
/-- Binds that came in. -/
theorem binds_open {H : Type} {enc : TypeId × Value → H} {W : World} {fuel : Nat} {v : Value} {y : DataW H × List MemPlace} (hf : DataW.trod enc Try.prog W 0 (fun _ => true) true fuel 38 [v] = some y) (hz : Rows.uptoBulk y.1 ≤ 1048576) :
    ∃ P m pc bl, v = .slice P m pc ∧ BindsAt W P m bl ∧ totB bl ≤ 1048576 ∧ ∀ x ∈ bl, x.1.size ≤ 1048576 ∧ x.2.1.1.size ≤ 1048576 ∧ SmF x.2.2 := by
  rcases DataW.trod_slice Try.underlying38 hf with ⟨hcs, h2⟩ | ⟨ad, len, c, elems, rest, n', hn', hcs, h2, _, hlc, hcm, hlen2, hel, _, _⟩
  · simp at hcs
    subst hcs
    exact ⟨none, 0, 0, [], rfl, ⟨rfl, by simp, fun i h => absurd h (by simp), fun x hx => by cases hx⟩, by simp [totB], fun x hx => by cases hx⟩
  · simp at hcs
    subst hcs
    rw [Try.cells50] at hel
    have hb2 : Rows.uptoBulkAll (elems.map (·.1)) + 1 ≤ Rows.uptoBulk y.1 := by
      simp only [h2, Rows.uptoBulk]; omega
    by_cases hz0 : len = 0
    · subst hz0
      exact ⟨some ad, 0, c, [], rfl, ⟨rfl, by simp, fun i h => absurd h (by simp), fun x hx => by cases hx⟩, by simp [totB], fun x hx => by cases hx⟩
    · have each : ∀ i (hi : i < elems.length), ∃ (v : ByteArray) (p : ByteArray × Int) (a : Option Addr) (c : Nat) (l : Fo), W.cells? 0 (ad.add (i * 4)) 4 = some [.string v, .string p.1, .int .i64 p.2, .slice a (lenF l) c] ∧ TmAt W p a c l ∧ nodesF l + 2 ≤ Rows.uptoBulk elems[i].1 ∧ v.size ≤ 1048576 ∧ p.1.size ≤ 1048576 ∧ SmF l := by
        intro i hi
        have h1 := hel i (by omega)
        rw [List.getElem?_eq_getElem hi] at h1
        cases hc : W.cells? 0 (ad.add (i * 4)) 4 with
        | none => rw [hc] at h1; cases h1
        | some cs' =>
          rw [hc] at h1
          have := bulk_all (List.mem_map_of_mem (f := (·.1)) (List.getElem_mem hi))
          obtain ⟨v, p, a, c, l, rfl, h3⟩ := bind_sm h1 (by omega)
          exact ⟨v, p, a, c, l, rfl, h3⟩
      obtain ⟨b, off, spot⟩ := ad
      have hspot : spot = none := by
        obtain ⟨v, p, a, c, l, h3, _⟩ := each 0 (by omega)
        obtain ⟨_, _, h30⟩ := World.cells?_some h3
        have := h30 0 (by omega)
        simpa [Addr.add] using World.cell?_spot this
      subst hspot
      obtain ⟨bl, h3, h4, h5, h6⟩ := binds_of (W := W) (b := b) elems off (fun i hi => by
        obtain ⟨v, p, a, c, l, h3, h4, h5, h6, h7⟩ := each i hi
        rw [addr_add] at h3
        obtain ⟨_, _, h30⟩ := World.cells?_some h3
        have q0 := h30 0 (by omega)
        have q1 := h30 1 (by omega)
        have q2 := h30 2 (by omega)
        have q3 := h30 3 (by omega)
        rw [addr_add] at q0 q1 q2 q3
        exact ⟨(v, p, l), a, c, ⟨q0, q1, q2, q3, h4⟩, h5, h6, h7⟩)
      refine ⟨some ⟨b, off, none⟩, len, c, bl, rfl, ⟨by omega, by omega, fun i hi => ?_, fun x hx => ?_⟩, by omega, h6⟩
      · obtain ⟨a', c', h8⟩ := h4 i hi
        exact ⟨b, off, a', c', rfl, h8⟩
      · have := (h6 x hx).1
        have e : maxLen = 9223372036854775807 := rfl
        omega

set_option maxRecDepth 100000 in
/-- One symbol's reading. -/
theorem sym_sm {H : Type} {enc : TypeId × Value → H} {W : World} {base : Nat} {spare : Nat → Bool} {held : Bool} {fuel : Nat} {cs : List Value} {x : DataW H × List MemPlace}
    (h : DataW.trod enc Try.prog W base spare held fuel 90 cs = some x) (hz : Rows.uptoBulk x.1 ≤ 1048576) : ∃ y : Sym, cs = [.string y.name, .int .i64 y.kind, .int .i64 y.arity, .string y.unit] ∧ y.Fits ∧ y.name.size ≤ 1048576 := by
  obtain ⟨xs, n, hfuel, hx, hl, hlen, hf⟩ := DataW.trod_struct Try.underlying90 h
  rw [Try.cells90] at hl
  match xs, hlen, cs, hl with
  | [y0, y1, y2, y3], _, [c0, c1, c2, c3], _ =>
    have h0 := hf 0 _ rfl
    have h1 := hf 1 _ rfl
    have h2 := hf 2 _ rfl
    have h3 := hf 3 _ rfl
    simp [Try.cells9, Try.cells88, Try.cells3] at h0 h1 h2 h3
    obtain ⟨s0, e0, k0, f0⟩ := DataW.trod_string Try.underlying9 h0
    obtain ⟨n1, e1, _, _⟩ := DataW.trod_int Try.underlying88 h1
    obtain ⟨n2, e2, _, _⟩ := DataW.trod_int Try.underlying3 h2
    obtain ⟨s3, e3, _, f3⟩ := DataW.trod_string Try.underlying9 h3
    simp at e0 e1 e2 e3
    subst e0 e1 e2 e3 hx
    refine ⟨⟨s0, n1, n2, s3⟩, rfl, ⟨f0, f3⟩, ?_⟩
    simp only [List.map_cons, List.map_nil, Rows.uptoBulk, Rows.uptoBulkAll, k0] at hz
    have e : s0.data.toList.length = s0.size := rfl
    show s0.size ≤ _
    omega
set_option maxRecDepth 100000 in
theorem sig_sm {H : Type} {enc : TypeId × Value → H} {W : World} {fuel : Nat} {v : Value} {y : DataW H × List MemPlace}
    (hf : DataW.trod enc Try.prog W 0 (fun _ => true) true fuel 23 [v] = some y) (hz : Rows.uptoBulk y.1 ≤ 1048576) :
    ∃ a len cap l, v = .slice a len cap ∧ SigAt W a len l ∧ ∀ y ∈ l, y.name.size ≤ 1048576 := by
  rcases DataW.trod_slice Try.underlying23 hf with ⟨hcs, _⟩ | ⟨x, len, cap, elems, rest, n, _, hcs, hx, hb, hl, hm, hlen, hel, _, _⟩
  · simp at hcs
    subst hcs
    exact ⟨none, 0, 0, [], rfl, ⟨rfl, by simp, fun i hi => absurd hi (by simp), fun s hs => absurd hs (by simp)⟩, fun s hs => absurd hs (by simp)⟩
  · simp at hcs
    subst hcs
    rw [Try.cells90] at hel
    have hb2 : Rows.uptoBulkAll (elems.map (·.1)) + 1 ≤ Rows.uptoBulk y.1 := by
      simp only [hx, Rows.uptoBulk]; omega
    have each : ∀ i, i < len → ∃ y : Sym, (∃ cs, W.cells? 0 (x.add (i * 4)) 4 = some cs ∧ cs = [.string y.name, .int .i64 y.kind, .int .i64 y.arity, .string y.unit]) ∧ y.Fits ∧ y.name.size ≤ 1048576 := by
      intro i hi
      have h1 := hel i hi
      have hi' : i < elems.length := by omega
      rw [List.getElem?_eq_getElem hi'] at h1
      have := bulk_all (List.mem_map_of_mem (f := (·.1)) (List.getElem_mem hi'))
      cases hc : W.cells? 0 (x.add (i * 4)) 4 with
      | none => rw [hc] at h1; cases h1
      | some cs =>
        rw [hc] at h1
        obtain ⟨y, hy, hyf⟩ := sym_sm h1 (by omega)
        exact ⟨y, ⟨cs, rfl, hy⟩, hyf⟩
    obtain ⟨ll, hll, hp⟩ := list_of_each len each
    refine ⟨some x, len, cap, ll, rfl, ⟨hll.symm, by omega, fun i hi => ?_, fun y hy => ?_⟩, fun y hy => ?_⟩
    · obtain ⟨⟨cs, h1, h2⟩, _⟩ := hp i hi
      obtain ⟨b, off, spot⟩ := x
      have hspot : spot = none := by
        obtain ⟨⟨cs0, h10, h20⟩, _⟩ := hp 0 (by omega)
        obtain ⟨_, _, h30⟩ := World.cells?_some h10
        have := h30 0 (by omega)
        rw [h20] at this
        simpa [Addr.add] using World.cell?_spot this
      subst hspot
      refine ⟨b, off, rfl, ?_⟩
      rw [addr_add] at h1
      obtain ⟨_, _, h3⟩ := World.cells?_some h1
      subst h2
      have k0 := h3 0 (by omega)
      have k1 := h3 1 (by omega)
      have k2 := h3 2 (by omega)
      have k3 := h3 3 (by omega)
      rw [addr_add] at k0 k1 k2 k3
      exact ⟨k0, k1, k2, k3⟩
    · obtain ⟨i, hi, rfl⟩ := List.getElem_of_mem hy
      exact (hp i hi).2.1
    · obtain ⟨i, hi, rfl⟩ := List.getElem_of_mem hy
      exact (hp i hi).2.2

/-! ### how long texts are -/
theorem symB_len {l : List Sym} (h : ∀ y ∈ l, y.name.size ≤ 1048576) (i : Int) : (symB l i).data.toList.length ≤ 1048576 := by
  unfold symB
  split
  · rename_i hi
    have hj : i.toNat < l.length := by omega
    have e : l.getD i.toNat ⟨⟨#[]⟩, 0, 0, ⟨#[]⟩⟩ = l[i.toNat] := by simp [List.getD, hj]
    rw [e]
    exact h _ (List.getElem_mem hj)
  · show 1 ≤ _; omega
theorem showN_len {l : List Sym} (h : ∀ y ∈ l, y.name.size ≤ 1048576) {x : ByteArray × Int} {m : Fo} {k : Nat} (hx : x.1.size ≤ 1048576) (hm : (showF l true m).length ≤ k) : (showN l x m).length ≤ k + 1048578 := by
  unfold showN
  split
  · have := symB_len h x.2
    rw [List.length_append]
    split
    · simp only [List.length_nil]; omega
    · simp only [List.length_append, List.length_cons, List.length_nil]; omega
  · have : x.1.data.toList.length = x.1.size := rfl
    omega
theorem showF_len {l : List Sym} (h : ∀ y ∈ l, y.name.size ≤ 1048576) : ∀ (F : Fo) (f : Bool), SmF F → (showF l f F).length ≤ nodesF F * 1048579
  | .nil, _, _ => by simp [showF]
  | .node b o x m r, f, ⟨hx, hm, hr⟩ => by
    rw [showF_node]
    have h1 := showN_len (l := l) (x := x) (m := m) h hx (showF_len h m true hm)
    have h2 := showF_len h r false hr
    have h3 : (if f = true then ([] : List UInt8) else [44]).length ≤ 1 := by split <;> simp
    have h4 : nodesF (.node b o x m r) * 1048579 = nodesF m * 1048579 + nodesF r * 1048579 + 1048579 := by
      simp only [nodesF]; rw [Nat.add_mul, Nat.add_mul]
    simp only [List.length_append]
    omega
theorem show_short {l : List Sym} (h : ∀ y ∈ l, y.name.size ≤ 1048576) {x : ByteArray × Int} {m : Fo} (hx : x.1.size ≤ 1048576) (hm : SmF m) : (showN l x m).length ≤ (nodesF m + 1) * 1048579 := by
  have h1 := showN_len (l := l) (x := x) (m := m) h hx (showF_len h m true hm)
  have h2 : (nodesF m + 1) * 1048579 = nodesF m * 1048579 + 1048579 := Nat.succ_mul _ _
  omega
theorem binds_short {l : List Sym} (h : ∀ y ∈ l, y.name.size ≤ 1048576) : ∀ (bl : List Bn) (f : Bool), (∀ x ∈ bl, x.1.size ≤ 1048576 ∧ x.2.1.1.size ≤ 1048576 ∧ SmF x.2.2) → (bindsS l f bl).length ≤ totB bl * 1048590
  | [], _, _ => by simp [bindsS]
  | x :: r, f, hb => by
    have h1 := hb x (by simp)
    have h2 := show_short (l := l) h h1.2.1 h1.2.2
    have h3 := binds_short h r false (fun y hy => hb y (by simp [hy]))
    have h4 : (if f = true then ([] : List UInt8) else [44, 32]).length ≤ 2 := by split <;> simp
    have h5 : x.1.data.toList.length = x.1.size := rfl
    have h6 : totB (x :: r) * 1048590 = (nodesF x.2.2 + 1) * 1048590 + 1048590 + totB r * 1048590 := by
      simp only [totB]
      rw [Nat.add_mul, show nodesF x.2.2 + 2 = nodesF x.2.2 + 1 + 1 from rfl, Nat.add_mul (nodesF x.2.2 + 1) 1]
    have h7 : (nodesF x.2.2 + 1) * 1048579 ≤ (nodesF x.2.2 + 1) * 1048590 := Nat.mul_le_mul_left _ (by decide)
    show ((if f = true then ([] : List UInt8) else [44, 32]) ++ (x.1.data.toList ++ [32, 45, 62, 32] ++ showN l x.2.1 x.2.2) ++ bindsS l false r).length ≤ _
    simp only [List.length_append, List.length_cons, List.length_nil]
    omega
/-- A signature, two terms, binds. -/
def allC (S : Option Addr) (n cap : Nat) (A B : Tn) (a b : Option Addr) (c d : Nat) (P : Option Addr) (m pc : Nat) : Array Value :=
  #[.slice S n cap, .string A.1.1, .int .i64 A.1.2, .slice a (lenF A.2) c, .string B.1.1, .int .i64 B.1.2, .slice b (lenF B.2) d, .slice P m pc]
structure AllAt (w : World) (S : Option Addr) (n : Nat) (l : List Sym) (A B : Tn) (a b : Option Addr) (c d : Nat) (P : Option Addr) (m : Nat) (bl : List Bn) : Prop where
  sig : SigAt w S n l
  one : TmAt w A.1 a c A.2
  two : TmAt w B.1 b d B.2
  bs : BindsAt w P m bl
/-- Their texts are of bounded length. -/
structure AllSm (l : List Sym) (A B : Tn) (bl : List Bn) : Prop where
  one : (showN l A.1 A.2).length ≤ 70368744177664
  two : (eqS l A B).length ≤ 140737488355328
  bs : (bindsS l true bl).length ≤ 140737488355328
  few : nodesF A.2 + nodesF B.2 ≤ 1048576
set_option maxRecDepth 100000 in
theorem all_open {H : Type} {enc : TypeId × Value → H} {W : World} {r : Reach} {b0 : Nat} {v : Value} {dd : DataW H} {ps : List MemPlace} (hv : Value.okWide Try.prog W r b0 43 v)
    (h : DataW.Trod enc Try.prog W 0 (fun _ => true) true 43 v dd ps) (hz : Rows.uptoBulk dd ≤ 1048576) :
    ∃ (S : Option Addr) (n cap : Nat) (l : List Sym) (A B : Tn) (a b : Option Addr) (c d : Nat) (P : Option Addr) (m pc : Nat) (bl : List Bn), v = .agg (allC S n cap A B a b c d P m pc) ∧ AllAt W S n l A B a b c d P m bl ∧ AllSm l A B bl := by
  obtain ⟨cs, rfl, hsz⟩ := okWide_struct Try.underlying43 hv
  obtain ⟨fuel, hf⟩ := h
  obtain ⟨xs, n, hfuel, hx, hl, hlen, hff⟩ := DataW.trod_struct Try.underlying43 hf
  rw [Try.cells43] at hsz
  simp only [Value.cells] at hff hl
  obtain ⟨cl⟩ := cs
  match xs, hlen, cl, hsz with
  | [y0, y1, y2, y3], _, [v0, v1, v2, v3, v4, v5, v6, v7], _ =>
    have g0 := hff 0 _ rfl
    have g1 := hff 1 _ rfl
    have g2 := hff 2 _ rfl
    have g3 := hff 3 _ rfl
    simp [Try.cells23, Try.cells28, Try.cells38] at g0 g1 g2 g3
    have hd : Rows.uptoBulk y0.1 + Rows.uptoBulk y1.1 + Rows.uptoBulk y2.1 + Rows.uptoBulk y3.1 + 1 ≤ 1048576 := by
      have := congrArg Prod.fst hx
      simp only at this
      rw [this] at hz
      simp only [List.map_cons, List.map_nil, Rows.uptoBulk, Rows.uptoBulkAll] at hz
      omega
    obtain ⟨S, len, cap, l, rfl, hS, hSm⟩ := sig_sm g0 (by omega)
    obtain ⟨pa, a, c, la, ea, hA, na, sa, ta⟩ := term_sm n _ _ g1 (by omega)
    obtain ⟨pb, b, d, lb, eb, hB, nb, sb, tb⟩ := term_sm n _ _ g2 (by omega)
    obtain ⟨P, m, pc, bl, rfl, hP, nP, sP⟩ := binds_open g3 (by omega)
    simp at ea eb
    obtain ⟨rfl, rfl, rfl⟩ := ea
    obtain ⟨rfl, rfl, rfl⟩ := eb
    have e1 := show_short hSm sa ta
    have e2 := show_short hSm sb tb
    have e3 := binds_short hSm bl true sP
    have k1 : (nodesF la + 1) * 1048579 ≤ 1048576 * 1048579 := Nat.mul_le_mul_right _ (by omega)
    have k2 : (nodesF lb + 1) * 1048579 ≤ 1048576 * 1048579 := Nat.mul_le_mul_right _ (by omega)
    have k3 : totB bl * 1048590 ≤ 1048576 * 1048590 := Nat.mul_le_mul_right _ nP
    refine ⟨S, len, cap, l, (pa, la), (pb, lb), a, b, c, d, P, m, pc, bl, rfl, ⟨hS, hA, hB, hP⟩, ⟨by show (showN l pa la).length ≤ _; omega, ?_, by omega, by show nodesF la + nodesF lb ≤ _; omega⟩⟩
    show (showN l pa la ++ [32, 61, 32] ++ showN l pb lb).length ≤ _
    simp only [List.length_append, List.length_cons, List.length_nil]
    omega
end Go.Proofs.Ytkcbhbkldcebiaa

namespace Go.Proofs.Ytkcbhbkldcebiaa
open Go.RowKit Go.Deep

set_option maxRecDepth 100000 in
set_option maxHeartbeats 2000000 in
theorem sright_any (S : Option Addr) (n cap : Nat) (l : List Sym) (w : World) (hS : SigAt w S n l) :
    Calls Try.prog 27 #[.slice S n cap] w fun e w' => e = .returned (.bool (checkE l == 0)) ∧ Below w.heap.size w w' := by
  have HC : Hid (Calls Try.prog 49 #[.slice S n cap] w fun e w' => CheckRet l e ∧ Below w.heap.size w w') := rcheck_any S n cap l w hS
  clear hS
  go_enter Try.func27, Try.ntmps27
  go_wp2_with (go_at_call 49; refine HC.out.mono ?_; rintro e w1 ⟨he, hb1⟩; unfold CheckRet at he; subst he; have HB1 : Hid (Below w.heap.size w w1) := hb1; clear hb1)
  go_ret
  exact ⟨rfl, HB1.out⟩
def rightB (l : List Sym) (t : Tn) : Bool := (checkE l == 0) && (errT l t.1 t.2 == 0)
set_option maxRecDepth 100000 in
set_option maxHeartbeats 2000000 in
theorem rright_any (S : Option Addr) (n cap : Nat) (l : List Sym) (t : Tn) (a : Option Addr) (c : Nat) (w : World) (hS : SigAt w S n l) (hT : TmAt w t.1 a c t.2) :
    Calls Try.prog 23 #[.slice S n cap, .agg #[.string t.1.1, .int .i64 t.1.2, .slice a (lenF t.2) c]] w fun e w' => e = .returned (.bool (rightB l t)) ∧ Below w.heap.size w w' := by
  obtain ⟨⟨tn, ts⟩, tl⟩ := t
  obtain ⟨ev, hev⟩ : ∃ ev, errT l (tn, ts) tl = ev := ⟨_, rfl⟩
  have ON : Hid (TBox (w.alloc (.cells #[.string tn, .int .i64 ts, .slice a (lenF tl) c] 28)) w.heap.size (tn, ts) a (lenF tl) c) := TBox.new w (tn, ts) a (lenF tl) c
  have HB0 : Hid (Below w.heap.size w (w.alloc (.cells #[.string tn, .int .i64 ts, .slice a (lenF tl) c] 28))) := (Below.refl _ w).alloc (Nat.le_refl _) _
  have HS : Hid (∀ W, Below w.heap.size w W → Calls Try.prog 27 #[.slice S n cap] W fun e w' => e = .returned (.bool (checkE l == 0)) ∧ Below W.heap.size W w') := fun W hW => sright_any S n cap l W (hS.below hW)
  have HN : Hid (∀ W, Below w.heap.size w W → Calls Try.prog 48 #[.slice S n cap, .agg #[.string tn, .int .i64 ts, .slice a (lenF tl) c]] W fun e w' => e = .returned (.int .i64 ev) ∧ Below W.heap.size W w') := fun W hW => by
    have := nodes_all l _ S n cap (tn, ts) tl a c W (Nat.le_refl _) (hS.below hW) (hT.below hW)
    rw [hev] at this
    exact this
  clear hS hT
  cases hc : (checkE l == 0)
  · have e : Hid (rightB l ((tn, ts), tl) = false) := by show _ = _; unfold rightB; rw [hc]; rfl
    rw [hc] at HS
    go_enter Try.func23, Try.ntmps23
    go_wp2_with (go_at_call 27; refine (HS.out _ HB0.out).mono ?_; rintro e w1 ⟨rfl, hb1⟩; have HB1 : Hid (Below w.heap.size w w1) := HB0.out.trans (hb1.mono HB0.out.size); have hbx := ON.out.below hb1; have c0 := hbx.c0; have c1 := hbx.c1; have c2 := hbx.c2; clear hb1 hbx)
    go_ret
    exact ⟨by rw [e.out]; rfl, HB1.out⟩
  · have e : Hid (rightB l ((tn, ts), tl) = (ev == 0)) := by show _ = _; unfold rightB; rw [hc, ← hev]; rfl
    rw [hc] at HS
    clear hev
    go_enter Try.func23, Try.ntmps23
    go_wp2_with (first
      | (go_at_call 27; refine (HS.out _ HB0.out).mono ?_; rintro e w1 ⟨rfl, hb1⟩; have HB1 : Hid (Below w.heap.size w w1) := HB0.out.trans (hb1.mono HB0.out.size); have hbx := ON.out.below hb1; have c0 := hbx.c0; have c1 := hbx.c1; have c2 := hbx.c2; clear hb1 hbx)
      | (go_at_call 48; refine (HN.out _ HB1.out).mono ?_; rintro e w2 ⟨rfl, hb2⟩; have HB2 : Hid (Below w.heap.size w w2) := HB1.out.trans (hb2.mono HB1.out.size); clear hb2))
    go_ret
    exact ⟨by rw [e.out]; rfl, HB2.out⟩
end Go.Proofs.Ytkcbhbkldcebiaa

namespace Go.Proofs.Ytkcbhbkldcebiaa
open Go.RowKit Go.Deep

theorem thenC_zero {a b : Int} (h : thenC a b = 0) : a = 0 ∧ b = 0 := by
  unfold thenC at h
  split at h
  · rename_i h0; exact ⟨by simpa using h0, h⟩
  · rename_i h0; exact absurd h (by simpa using h0)
theorem node_in {l : List Sym} {x : ByteArray × Int} {n : Nat} (h : nodeErr l x n = 0) : InX l x := by
  intro hx
  have hn : noName x.1 = true := by
    unfold noName
    exact empty_of hx
  unfold nodeErr at h
  rw [if_neg (by simp [hn])] at h
  split at h
  · rename_i h0
    cases hs : l[x.2.toNat]? with
    | none => rw [hs] at h; dsimp only at h; exact absurd h (by decide)
    | some s =>
      have := (List.getElem?_eq_some_iff.1 hs).1
      omega
  · exact absurd h (by decide)
theorem err_in {l : List Sym} : ∀ {m : Fo}, errF l m = 0 → InF l m
  | .nil, _ => trivial
  | .node _ _ x m r, h => by
    obtain ⟨h1, h2⟩ := thenC_zero h
    obtain ⟨h3, h4⟩ := thenC_zero h1
    exact ⟨node_in h3, err_in h4, err_in h2⟩
theorem right_in {l : List Sym} {t : Tn} (h : rightB l t = true) : InX l t.1 ∧ InF l t.2 := by
  unfold rightB at h
  have h1 : errT l t.1 t.2 = 0 := by
    have := (Bool.and_eq_true _ _ ▸ h : _ ∧ _).2
    simpa using this
  obtain ⟨h2, h3⟩ := thenC_zero h1
  exact ⟨node_in h2, err_in h3⟩
/-- The argument's box as the walk goes. -/
structure StA (w : World) (cs : Array Value) (W : World) : Prop where
  low : Below w.heap.size w W
  lt : w.heap.size < W.heap.size
  box : W.heap[w.heap.size]? = some (.cells cs 43 (0, 0))
theorem StA.below {w W W' : World} {cs : Array Value} (h : StA w cs W) (hb : Below W.heap.size W W') : StA w cs W' :=
  ⟨h.low.trans (hb.mono h.low.size), Nat.lt_of_lt_of_le h.lt hb.size, (hb.block _ h.lt).trans h.box⟩
theorem StA.alloc {w W : World} {cs : Array Value} (h : StA w cs W) (o : Obj) : StA w cs (W.alloc o) := h.below (alloc_below0 W o)
/-- A lent term's box. -/
structure LnA (p : Nat) (W : World) (x : ByteArray × Int) (a : Option Addr) (c : Nat) (m : Fo) : Prop where
  box : XBox W p x (.slice a (lenF m) c)
  own : OwnTm true (fun _ => True) W x a c m
theorem LnA.below {p : Nat} {W W' : World} {x : ByteArray × Int} {a : Option Addr} {c : Nat} {m : Fo} (h : LnA p W x a c m) (hb : Below W.heap.size W W') : LnA p W' x a c m := ⟨h.box.below hb, h.own.below hb⟩

set_option maxRecDepth 100000 in
set_option maxHeartbeats 8000000 in
theorem textShows_walk (S : Option Addr) (n cap : Nat) (l : List Sym) (A B : Tn) (a b : Option Addr) (c d : Nat) (P : Option Addr) (m pc : Nat) (bl : List Bn) (w : World) (hT : AllAt w S n l A B a b c d P m bl) (hZ : AllSm l A B bl) :
    Calls Try.prog 6 #[.agg (allC S n cap A B a b c d P m pc)] w fun e w' => e = .returned (.bool true) ∧ Below w.heap.size w w' := by
  have hml := hT.bs.len
  subst hml
  have hsm := hT.bs.small
  unfold maxLen at hsm
  have HT := hid hT; have HZ := hid hZ
  unfold allC
  have I0 : Hid (StA w #[.slice S n cap, .string A.1.1, .int .i64 A.1.2, .slice a (lenF A.2) c, .string B.1.1, .int .i64 B.1.2, .slice b (lenF B.2) d, .slice P bl.length pc] (w.alloc (.cells #[.slice S n cap, .string A.1.1, .int .i64 A.1.2, .slice a (lenF A.2) c, .string B.1.1, .int .i64 B.1.2, .slice b (lenF B.2) d, .slice P bl.length pc] 43))) :=
    hid ⟨alloc_below0 w _, by rw [World.size_alloc]; omega, World.alloc_heap_new w _⟩
  clear hT hZ
  go_enter Try.func6, Try.ntmps6
  go_wp2_with fail
  generalize w.alloc (.cells #[.slice S n cap, .string A.1.1, .int .i64 A.1.2, .slice a (lenF A.2) c, .string B.1.1, .int .i64 B.1.2, .slice b (lenF B.2) d, .slice P bl.length pc] 43) = W0 at I0 ⊢
  obtain ⟨cs, hcs⟩ : ∃ cs : Array Value, cs = #[.slice S n cap, .string A.1.1, .int .i64 A.1.2, .slice a (lenF A.2) c, .string B.1.1, .int .i64 B.1.2, .slice b (lenF B.2) d, .slice P bl.length pc] := ⟨_, rfl⟩
  have HC : Hid (∀ W, StA w cs W → (W.cell? ⟨w.heap.size, 0, none⟩ = some (.slice S n cap)) ∧ (W.cell? ⟨w.heap.size, 1, none⟩ = some (.string A.1.1) ∧ W.cell? ⟨w.heap.size, 2, none⟩ = some (.int .i64 A.1.2) ∧ W.cell? ⟨w.heap.size, 3, none⟩ = some (.slice a (lenF A.2) c)) ∧ (W.cell? ⟨w.heap.size, 4, none⟩ = some (.string B.1.1) ∧ W.cell? ⟨w.heap.size, 5, none⟩ = some (.int .i64 B.1.2) ∧ W.cell? ⟨w.heap.size, 6, none⟩ = some (.slice b (lenF B.2) d)) ∧ W.cell? ⟨w.heap.size, 7, none⟩ = some (.slice P bl.length pc)) := hid fun W h => by
    have := h.box
    rw [hcs] at this
    exact ⟨cell_box this rfl, ⟨cell_box this rfl, cell_box this rfl, cell_box this rfl⟩, ⟨cell_box this rfl, cell_box this rfl, cell_box this rfl⟩, cell_box this rfl⟩
  rw [← hcs] at I0
  clear hcs
  refine (head_any W0).mono ?_
  rintro e w1 ⟨rfl, hb1⟩
  have I1 := hid (I0.out.below hb1)
  clear hb1 I0
  obtain ⟨i0, ⟨i1, i2, i3⟩, ⟨i4, i5, i6⟩, i7⟩ := HC.out w1 I1.out
  go_wp2_with fail
  refine (lent_any A.1 A.2 a c w1 (HT.out.one.below I1.out.low)).mono ?_
  rintro e w2 ⟨aa, ca, rfl, ho2, hb2⟩
  have B2 := alloc_below0 w2 (.cells #[.string A.1.1, .int .i64 A.1.2, .slice aa (lenF A.2) ca] 28)
  have X2 : XBox (w2.alloc (.cells #[.string A.1.1, .int .i64 A.1.2, .slice aa (lenF A.2) ca] 28)) w2.heap.size A.1 (.slice aa (lenF A.2) ca) := World.alloc_heap_new w2 _
  have M2 : Hid (LnA w2.heap.size (w2.alloc (.cells #[.string A.1.1, .int .i64 A.1.2, .slice aa (lenF A.2) ca] 28)) A.1 aa ca A.2) := hid ⟨X2, OwnTm.mono (fun _ _ _ => trivial) (ho2.below B2)⟩
  have I2 := hid ((I1.out.below hb2).below B2)
  clear ho2 hb2 B2 X2 I1 i0 i1 i2 i3 i4 i5 i6 i7
  obtain ⟨i0, ⟨i1, i2, i3⟩, ⟨i4, i5, i6⟩, i7⟩ := HC.out _ I2.out
  go_wp2_with fail
  generalize w2.alloc (.cells #[.string A.1.1, .int .i64 A.1.2, .slice aa (lenF A.2) ca] 28) = W2 at M2 I2 i0 i1 i2 i3 i4 i5 i6 i7 ⊢
  generalize w2.heap.size = pa at M2 ⊢
  refine (lent_any B.1 B.2 b d W2 (HT.out.two.below I2.out.low)).mono ?_
  rintro e w3 ⟨ab, cb, rfl, ho3, hb3⟩
  have B3 := alloc_below0 w3 (.cells #[.string B.1.1, .int .i64 B.1.2, .slice ab (lenF B.2) cb] 28)
  have X3 : XBox (w3.alloc (.cells #[.string B.1.1, .int .i64 B.1.2, .slice ab (lenF B.2) cb] 28)) w3.heap.size B.1 (.slice ab (lenF B.2) cb) := World.alloc_heap_new w3 _
  have N3 : Hid (LnA w3.heap.size (w3.alloc (.cells #[.string B.1.1, .int .i64 B.1.2, .slice ab (lenF B.2) cb] 28)) B.1 ab cb B.2) := hid ⟨X3, OwnTm.mono (fun _ _ _ => trivial) (ho3.below B3)⟩
  have I3 := hid ((I2.out.below hb3).below B3)
  have M3 := hid ((M2.out.below hb3).below B3)
  clear ho3 hb3 B3 X3 I2 M2 i0 i1 i2 i3 i4 i5 i6 i7
  obtain ⟨i0, _, _, i7⟩ := HC.out _ I3.out
  have m0 := M3.out.box.c0; have m1 := M3.out.box.c1; have m2 := M3.out.box.c2
  go_wp2_with fail
  generalize w3.alloc (.cells #[.string B.1.1, .int .i64 B.1.2, .slice ab (lenF B.2) cb] 28) = W3 at M3 N3 I3 i0 i7 m0 m1 m2 ⊢
  generalize w3.heap.size = pb at N3 ⊢
  refine (show_any S n cap l A.1 A.2 aa ca W3 (HT.out.sig.below I3.out.low) M3.out.own.tm (Nat.le_trans HZ.out.one (by decide))).mono ?_
  rintro e w4 ⟨rfl, hb4⟩
  have D4 : Hid (Below W3.heap.size W3 w4) := hid hb4
  clear hb4 i0 i7 m0 m1 m2
  obtain ⟨i0, _, _, i7⟩ := HC.out w4 (I3.out.below D4.out)
  have m0 := (M3.out.below D4.out).box.c0; have m1 := (M3.out.below D4.out).box.c1; have m2 := (M3.out.below D4.out).box.c2
  have n0 := (N3.out.below D4.out).box.c0; have n1 := (N3.out.below D4.out).box.c1; have n2 := (N3.out.below D4.out).box.c2
  go_wp2_with fail
  refine (showE_any S n cap l A B aa ab ca cb w4 (HT.out.sig.below (I3.out.below D4.out).low) (M3.out.below D4.out).own.tm (N3.out.below D4.out).own.tm HZ.out.two).mono ?_
  rintro e w5 ⟨rfl, hb5⟩
  have D5 : Hid (Below W3.heap.size W3 w5) := hid (D4.out.trans (hb5.mono D4.out.size))
  clear hb5 i0 i7 m0 m1 m2 n0 n1 n2 D4
  obtain ⟨i0, _, _, i7⟩ := HC.out w5 (I3.out.below D5.out)
  go_wp2_with fail
  refine (showB_any S n cap l P bl.length pc bl w5 (HT.out.sig.below (I3.out.below D5.out).low) (HT.out.bs.below (I3.out.below D5.out).low) HZ.out.bs).mono ?_
  rintro e w6 ⟨rfl, hb6⟩
  have D6 : Hid (Below W3.heap.size W3 w6) := hid (D5.out.trans (hb6.mono D5.out.size))
  clear hb6 i0 i7 D5
  obtain ⟨_, ⟨i1, i2, i3⟩, _, _⟩ := HC.out w6 (I3.out.below D6.out)
  have m0 := (M3.out.below D6.out).box.c0; have m1 := (M3.out.below D6.out).box.c1; have m2 := (M3.out.below D6.out).box.c2
  go_wp2_with fail
  refine (kept_any _ A.1 A.2 aa a ca c w6 (M3.out.below D6.out).own (HT.out.one.below (I3.out.below D6.out).low)).mono ?_
  rintro e w7 ⟨rfl, hb7⟩
  have D7 : Hid (Below W3.heap.size W3 w7) := hid (D6.out.trans (hb7.mono D6.out.size))
  clear hb7 i1 i2 i3 m0 m1 m2 D6
  obtain ⟨_, _, ⟨i4, i5, i6⟩, _⟩ := HC.out w7 (I3.out.below D7.out)
  have n0 := (N3.out.below D7.out).box.c0; have n1 := (N3.out.below D7.out).box.c1; have n2 := (N3.out.below D7.out).box.c2
  go_wp2_with fail
  refine (kept_any _ B.1 B.2 ab b cb d w7 (N3.out.below D7.out).own (HT.out.two.below (I3.out.below D7.out).low)).mono ?_
  rintro e w8 ⟨rfl, hb8⟩
  have I8 := hid ((I3.out.below D7.out).below hb8)
  clear hb8 i4 i5 i6 n0 n1 n2 D7 I3 M3 N3
  obtain ⟨i0, ⟨i1, i2, i3⟩, _, _⟩ := HC.out w8 I8.out
  go_wp2_with fail
  refine (rright_any S n cap l A a c w8 (HT.out.sig.below I8.out.low) (HT.out.one.below I8.out.low)).mono ?_
  rintro e w9 ⟨rfl, hb9⟩
  have I9 := hid (I8.out.below hb9)
  clear hb9 i0 i1 i2 i3 I8
  obtain ⟨i0, _, ⟨i4, i5, i6⟩, _⟩ := HC.out w9 I9.out
  go_wp2_with fail
  refine (rright_any S n cap l B b d w9 (HT.out.sig.below I9.out.low) (HT.out.two.below I9.out.low)).mono ?_
  rintro e wa ⟨rfl, hba⟩
  have Ia := hid (I9.out.below hba)
  clear hba i0 i4 i5 i6 I9
  obtain ⟨ra, hra⟩ : ∃ ra, rightB l A = ra := ⟨_, rfl⟩
  obtain ⟨rb, hrb⟩ : ∃ rb, rightB l B = rb := ⟨_, rfl⟩
  rw [hra, hrb]
  have RA := hid hra; have RB := hid hrb
  clear hra hrb
  cases ra with
  | false =>
    go_wp2
    go_ret
    exact ⟨rfl, Ia.out.low⟩
  | true =>
    cases rb with
    | false =>
      go_wp2
      go_ret
      exact ⟨rfl, Ia.out.low⟩
    | true =>
      obtain ⟨_, _, _, i7⟩ := HC.out wa Ia.out
      go_wp2_with fail
      go_loopw [13, 14] (fun iv _ wr => ∃ i : Nat, iv = .int .i64 i ∧ i ≤ bl.length ∧ StA w cs wr ∧ ∀ x ∈ bl.take i, rightB l x.2 = true) (fun iv _ _ => bl.length - (intOf iv).toNat)
      case atStart => exact ⟨0, rfl, Nat.zero_le _, Ia.out, fun x hx => by simp at hx⟩
      case round =>
        obtain ⟨i, rfl, hi, hst, hrt⟩ := hrel
        have Ir := hid hst; have HR := hid hrt
        clear hst hrt i7
        by_cases hlt : i < bl.length
        · obtain ⟨bb, off, ta, tc, rfl, bd0⟩ := HT.out.bs.cells i hlt
          obtain ⟨x, hx⟩ : ∃ x, bl[i] = x := ⟨_, rfl⟩
          have htk := take_next hlt
          rw [hx] at bd0 htk
          have bd := bd0.below Ir.out.low
          obtain ⟨rv, hrv⟩ : ∃ rv, rightB l x.2 = rv := ⟨_, rfl⟩
          have HN : Hid (∀ W, Below wr.heap.size wr W → Calls Try.prog 23 #[.slice S n cap, .agg #[.string x.2.1.1, .int .i64 x.2.1.2, .slice ta (lenF x.2.2) tc]] W fun e w' => e = .returned (.bool rv) ∧ Below W.heap.size W w') := hid fun W hW => by
            rw [← hrv]
            exact rright_any S n cap l x.2 ta tc W ((HT.out.sig.below Ir.out.low).below hW) (bd.tm.below hW)
          have HRV := hid hrv; have HTK := hid htk
          obtain ⟨j0, _, _, j7⟩ := HC.out wr Ir.out
          have hne := later_some wr
          have g0 := later_cell j0; have g7 := later_cell j7
          have e1 := later_cell bd.name; have e2 := later_cell bd.sym; have e3 := later_cell bd.list
          clear bd bd0 hx hrv htk
          go_wp2_with fail
          refine wp_region_later (by kernel_rfl) (by kernel_rfl) ?_
          repeat (go_big_quiet_step (first | (go_at_call 23; with_reducible refine calls_later (HN.out _ ?_); exact Later.below _) | fail))
          refine wpQuiet_nil ?_
          intro _ hw'
          obtain ⟨b3, hw''⟩ := hw'
          subst hw''
          have I3 := hid (Ir.out.below b3.below)
          clear g0 g7 e1 e2 e3 hne j0 j7
          cases rv with
          | false =>
            go_wp2
            go_ret
            exact ⟨rfl, I3.out.low⟩
          | true =>
            go_wp2
            go_roundw
            case rel =>
              refine ⟨i + 1, by go_num, by omega, I3.out, fun y hy => ?_⟩
              rw [HTK.out] at hy
              rcases List.mem_append.1 hy with hy | hy
              · exact HR.out y hy
              · rw [List.mem_singleton.1 hy]; exact HRV.out
            case measure => simp [intOf]; omega
        · have hil : i = bl.length := by omega
          have HIN : Hid (∀ x ∈ bl, InX l x.2.1 ∧ InF l x.2.2) := hid fun x hx => right_in (HR.out x (by rw [hil, List.take_length]; exact hx))
          clear hil
          obtain ⟨i0, ⟨i1, i2, i3⟩, _, j7⟩ := HC.out wr Ir.out
          go_wp2_with fail
          refine (rshow_any S n cap l A.1 A.2 a c wr (right_in RA.out).1 (right_in RA.out).2 (HT.out.sig.below Ir.out.low) (HT.out.one.below Ir.out.low) (Nat.le_trans HZ.out.one (by decide))).mono ?_
          rintro e wb ⟨rfl, hbb⟩
          have Ib := hid (Ir.out.below hbb)
          clear hbb i0 i1 i2 i3 j7
          obtain ⟨i0, ⟨i1, i2, i3⟩, ⟨i4, i5, i6⟩, j7⟩ := HC.out wb Ib.out
          go_wp2_with fail
          refine (rshowE_any S n cap l A B a b c d wb (right_in RA.out) (right_in RB.out) (HT.out.sig.below Ib.out.low) (HT.out.one.below Ib.out.low) (HT.out.two.below Ib.out.low) HZ.out.two).mono ?_
          rintro e wc ⟨rfl, hbc⟩
          have Ic := hid (Ib.out.below hbc)
          clear hbc i0 i1 i2 i3 i4 i5 i6 j7
          obtain ⟨i0, _, _, j7⟩ := HC.out wc Ic.out
          go_wp2_with fail
          refine (rshowB_any S n cap l P bl.length pc bl wc (HT.out.sig.below Ic.out.low) (HT.out.bs.below Ic.out.low) HIN.out HZ.out.bs).mono ?_
          rintro e wd ⟨rfl, hbd⟩
          have Id := hid (Ic.out.below hbd)
          clear hbd i0 j7
          go_wp2
          go_ret
          exact ⟨rfl, Id.out.low⟩
end Go.Proofs.Ytkcbhbkldcebiaa

namespace Go.Proofs.Ytkcbhbkldcebiaa
open Go.RowKit Go.Deep

/-- A word that is a name (1) or a variable (2). -/
structure TokB (kd : Int) (b : ByteArray) : Prop where
  pos : 0 < b.size
  short : b.size ≤ 12
  kind : (kd = 1 ∧ lowZ (bt b 0) = true) ∨ (kd = 2 ∧ lowZ (bt b 0) = false ∧ (upZ (bt b 0) || bt b 0 == 95) = true)
  tail : ∀ j, 1 ≤ j → j < b.size → okTail (bt b 0) (bt b j) = true
  under : bt b 0 = 95 → 1 < b.size ∧ bt b 1 ≠ 48
/-- These bytes stand at this place. -/
def Sits (T : ByteArray) (k : Nat) (l : List UInt8) : Prop := k + l.length ≤ T.size ∧ ∀ j (h : j < l.length), bt T (k + j) = (l[j].toNat : Int)
theorem sits_append {T : ByteArray} {k : Nat} {a b : List UInt8} (h : Sits T k (a ++ b)) : Sits T k a ∧ Sits T (k + a.length) b := by
  obtain ⟨h1, h2⟩ := h
  rw [List.length_append] at h1
  refine ⟨⟨by omega, fun j hj => ?_⟩, by omega, fun j hj => ?_⟩
  · rw [h2 j (by rw [List.length_append]; omega), List.getElem_append_left hj]
  · rw [Nat.add_assoc, h2 (a.length + j) (by rw [List.length_append]; omega), List.getElem_append_right (by omega)]
    congr 3
    omega
theorem sits_one {T : ByteArray} {k : Nat} {c : UInt8} {b : List UInt8} (h : Sits T k (c :: b)) : k < T.size ∧ bt T k = (c.toNat : Int) ∧ Sits T (k + 1) b := by
  have := sits_append (a := [c]) (b := b) h
  refine ⟨?_, ?_, this.2⟩
  · have := this.1.1; simp at this; omega
  · have := this.1.2 0 (by simp)
    simpa using this
theorem sits_bytes {T : ByteArray} {k : Nat} {b : ByteArray} (h : Sits T k b.data.toList) : k + b.size ≤ T.size ∧ ∀ j, j < b.size → bt T (k + j) = bt b j := by
  obtain ⟨h1, h2⟩ := h
  have hz : b.data.toList.length = b.size := rfl
  refine ⟨by omega, fun j hj => ?_⟩
  rw [h2 j (by omega), bt_of hj]
  rfl
theorem low_not {c : Int} (h : lowZ c = true) : 97 ≤ c ∧ c ≤ 122 := by
  unfold lowZ at h
  simpa using h
theorem kindP_1 {s : ByteArray} {b : Nat} (h : kindP s b = 1) : lowZ (bt s b) = true := by
  unfold kindP at h
  split at h
  · assumption
  · repeat' split at h
    all_goals (exfalso; revert h; decide)
theorem kindP_2 {s : ByteArray} {b : Nat} (h : kindP s b = 2) : lowZ (bt s b) = false ∧ (upZ (bt s b) || bt s b == 95) = true := by
  unfold kindP at h
  split at h
  · exfalso; revert h; decide
  · rename_i h0
    split at h
    · rename_i h1
      exact ⟨by simpa using h0, h1⟩
    · repeat' split at h
      all_goals (exfalso; revert h; decide)
theorem errP_0 {s : ByteArray} {b : Nat} (h : errP s b = 0) : badP s b = false ∧ endP s b ≤ b + 12 := by
  unfold errP at h
  split at h
  · exfalso; revert h; decide
  · rename_i h0
    split at h
    · exfalso; revert h; decide
    · exact ⟨by simpa using h0, by omega⟩
/-- A word that was read. -/
theorem tok_of_nx {s : ByteArray} {k : Nat} (hk : (nx s k).word.kind = 1 ∨ (nx s k).word.kind = 2) : TokB (nx s k).word.kind (nx s k).word.text ∧ k + (nx s k).word.text.size ≤ (nx s k).to := by
  unfold nx at hk ⊢
  have hge := runTo_ge blank s k
  generalize runTo blank s k = b at hk hge ⊢
  by_cases hb : s.size ≤ b
  · rw [if_pos hb] at hk
    exfalso
    rcases hk with h | h <;> exact absurd h (by dsimp only [noWd]; decide)
  · rw [if_neg hb] at hk ⊢
    by_cases he : errP s b = 0
    · rw [if_pos he] at hk ⊢
      dsimp only at hk ⊢
      obtain ⟨hbad, hlen⟩ := errP_0 he
      have hb' : b < s.size := by omega
      have hgt := endP_gt s b
      have hle := endP_le hb'
      have hz : (s.extract b (endP s b)).size = endP s b - b := by simp; omega
      have hbt : ∀ j, b + j < endP s b → bt (s.extract b (endP s b)) j = bt s (b + j) := fun j hj => by rw [bt_ext s _ _ _ hle, if_pos hj]
      have h0 : bt (s.extract b (endP s b)) 0 = bt s b := hbt 0 (by omega)
      refine ⟨⟨by omega, by omega, ?_, fun j h1 h2 => ?_, fun h => ?_⟩, by omega⟩
      · rw [h0]
        rcases hk with h | h
        · exact .inl ⟨h, kindP_1 h⟩
        · exact .inr ⟨h, kindP_2 h⟩
      · rw [h0, hbt j (by omega)]
        have hE : endP s b = runTo (okTail (bt s b)) s (b + 1) := by
          unfold endP lenK
          rw [if_pos (by rcases hk with h | h <;> rw [h] <;> rfl)]
        exact runTo_all (p := okTail (bt s b)) (k := b + 1) (by omega) (by omega)
      · rw [h0] at h
        unfold badP at hbad
        simp [h] at hbad
        refine ⟨by omega, ?_⟩
        rw [hbt 1 (by omega)]
        exact hbad.2.2
    · rw [if_neg he] at hk
      exfalso
      rcases hk with h | h <;> exact absurd h (by dsimp only [noWd]; decide)
theorem tok_first {kd : Int} {b : ByteArray} (h : TokB kd b) : (97 ≤ bt b 0 ∧ bt b 0 ≤ 122) ∨ (65 ≤ bt b 0 ∧ bt b 0 ≤ 90) ∨ bt b 0 = 95 := by
  rcases h.kind with ⟨_, h⟩ | ⟨_, _, h⟩
  · exact .inl (low_not h)
  · unfold upZ at h
    simp at h
    rcases h with h | h
    · exact .inr (.inl h)
    · exact .inr (.inr h)
theorem nx_tok {T : ByteArray} {k : Nat} {kd : Int} {b : ByteArray} (ht : TokB kd b) (hs : Sits T k b.data.toList) (he : okTail (bt b 0) (bt T (k + b.size)) = false) : nx T k = ⟨⟨kd, b, k⟩, k + b.size, 0⟩ := by
  obtain ⟨h1, h2⟩ := sits_bytes hs
  have hp := ht.pos
  have h0 : bt T k = bt b 0 := h2 0 hp
  have hf := tok_first ht
  have hbl : runTo blank T k = k := runTo_stop (by unfold blank; rw [h0]; simp; omega)
  have hkd : kindP T k = kd := by
    unfold kindP
    rw [h0]
    rcases ht.kind with ⟨e, h⟩ | ⟨e, h, h'⟩
    · rw [if_pos h, e]
    · rw [if_neg (by simp [h]), if_pos h', e]
  have hk12 : (kd == 1 || kd == 2) = true := by rcases ht.kind with ⟨e, _⟩ | ⟨e, _⟩ <;> rw [e] <;> rfl
  have hend : endP T k = k + b.size := by
    unfold endP lenK
    rw [hkd, if_pos hk12]
    refine runTo_eq (by omega) h1 (fun j h3 h4 => ?_) (fun _ => by rw [h0]; exact he)
    have := ht.tail (j - k) (by omega) (by omega)
    rw [← h2 (j - k) (by omega)] at this
    rw [h0]
    rwa [show k + (j - k) = j by omega] at this
  have hbad : badP T k = false := by
    unfold badP
    rw [hkd, hend, h0]
    have hk0 : (kd == 0) = false := by rcases ht.kind with ⟨e, _⟩ | ⟨e, _⟩ <;> rw [e] <;> rfl
    rw [hk0, Bool.false_or]
    by_cases h95 : bt b 0 = 95
    · obtain ⟨h5, h6⟩ := ht.under h95
      rw [h2 1 h5]
      simp [h6]
      omega
    · simp [h95]
  have herr : errP T k = 0 := by
    unfold errP
    rw [hbad, hend]
    have := ht.short
    simp
    omega
  unfold nx
  rw [hbl, if_neg (by omega), if_pos herr, hkd, hend]
  congr 2
  refine ext_bt (by simp; omega) (fun j hj => ?_)
  have hj' : j < b.size := by simp at hj; omega
  rw [bt_ext T _ _ _ h1, if_pos (by omega)]
  exact h2 j hj'
theorem nx_sign {T : ByteArray} {k : Nat} (hk : k < T.size) {c kd : Int} (hb : bt T k = c) (h : (c = 40 ∧ kd = 3) ∨ (c = 41 ∧ kd = 4) ∨ (c = 44 ∧ kd = 5)) : nx T k = ⟨⟨kd, T.extract k (k + 1), k⟩, k + 1, 0⟩ := by
  have hbl : runTo blank T k = k := runTo_stop (by unfold blank; rw [hb]; simp; omega)
  have hkd : kindP T k = kd := by
    unfold kindP
    rw [hb]
    rcases h with ⟨rfl, rfl⟩ | ⟨rfl, rfl⟩ | ⟨rfl, rfl⟩ <;> rfl
  have hend : endP T k = k + 1 := by
    unfold endP lenK
    rw [hkd]
    rcases h with ⟨_, rfl⟩ | ⟨_, rfl⟩ | ⟨_, rfl⟩ <;> rfl
  have hbad : badP T k = false := by
    unfold badP
    rw [hkd, hend, hb]
    rcases h with ⟨rfl, rfl⟩ | ⟨rfl, rfl⟩ | ⟨rfl, rfl⟩ <;> rfl
  have herr : errP T k = 0 := by
    unfold errP
    rw [hbad, hend]
    simp
  unfold nx
  rw [hbl, if_neg (by omega), if_pos herr, hkd, hend]
/-- What stands behind a term, so that it ends there. -/
structure Soft (T : ByteArray) (E : Nat) : Prop where
  stop : ∀ a, okTail a (bt T E) = false
  fine : (nx T E).err = 0
  none : (nx T E).word.kind ≠ 3
theorem tail_not (a : Int) {c : Int} (h : c = 0 ∨ c = 32 ∨ c = 40 ∨ c = 41 ∨ c = 44) : okTail a c = false := by
  unfold okTail
  rcases h with rfl | rfl | rfl | rfl | rfl <;> simp [digZ, lowZ, upZ]
theorem soft_sign {T : ByteArray} {k : Nat} (hk : k < T.size) (hb : bt T k = 41 ∨ bt T k = 44) : Soft T k := by
  rcases hb with hb | hb
  · refine ⟨fun a => tail_not a (by omega), ?_, ?_⟩
    · rw [nx_sign hk hb (.inr (.inl ⟨rfl, rfl⟩))]
    · rw [nx_sign hk hb (.inr (.inl ⟨rfl, rfl⟩))]; dsimp only; decide
  · refine ⟨fun a => tail_not a (by omega), ?_, ?_⟩
    · rw [nx_sign hk hb (.inr (.inr ⟨rfl, rfl⟩))]
    · rw [nx_sign hk hb (.inr (.inr ⟨rfl, rfl⟩))]; dsimp only; decide
theorem nx_end {T : ByteArray} : nx T T.size = ⟨noWd, T.size, 0⟩ := by
  unfold nx
  rw [runTo_end (Nat.le_refl _), if_pos (Nat.le_refl _)]
theorem soft_end {T : ByteArray} : Soft T T.size := by
  refine ⟨fun a => tail_not a (.inl (bt_out (Nat.le_refl _))), ?_, ?_⟩
  · rw [nx_end]
  · rw [nx_end]; dsimp only [noWd]; decide
theorem look_of {T : ByteArray} {k : Nat} {r : Nx} (h : nx T k = r) (he : r.err = 0) : lookP T k = .ok r := by
  unfold lookP
  rw [h, if_pos he]
theorem next_of {T : ByteArray} {k : Nat} {r : Nx} (h : nx T k = r) (he : r.err = 0) (h0 : r.word.kind ≠ 0) : nextP T k = .ok r := by
  unfold nextP
  rw [look_of h he]
  dsimp only
  rw [if_neg h0]
theorem want_is {T : ByteArray} {k : Nat} {r : Nx} {kd : Int} (h : nx T k = r) (he : r.err = 0) (h0 : r.word.kind = kd) (hk : kd ≠ 0) : wantP T k kd = .ok r := by
  unfold wantP
  rw [next_of h he (by rw [h0]; exact hk)]
  dsimp only
  rw [if_pos h0]
theorem pass_of {T : ByteArray} {k : Nat} {r : Nx} {kd : Int} (h : nx T k = r) (he : r.err = 0) (h0 : r.word.kind = kd) : passP T k kd = .ok (true, r.to) := by
  unfold passP
  rw [look_of h he]
  dsimp only
  rw [if_pos h0]
theorem pass_no {T : ByteArray} {k : Nat} {kd : Int} (he : (nx T k).err = 0) (h0 : (nx T k).word.kind ≠ kd) : passP T k kd = .ok (false, k) := by
  unfold passP
  rw [look_of rfl he]
  dsimp only
  rw [if_neg h0]

/-- The same terms, without where they lie. -/
def cleanF : Fo → Fo
  | .nil => .nil
  | .node _ _ x m r => .node 0 0 x (cleanF m) (cleanF r)
/-- Names and variables that can be read back. -/
def TokX (l : List Sym) (x : ByteArray × Int) (m : Fo) : Prop := if x.1.size = 0 then TokB 1 (symB l x.2) ∧ findB l (symB l x.2) = true ∧ findI l (symB l x.2) = x.2 else TokB 2 x.1 ∧ x.2 = 0 ∧ m = .nil
def TokF (l : List Sym) : Fo → Prop
  | .nil => True
  | .node _ _ x m r => TokX l x m ∧ TokF l m ∧ TokF l r
def TermSt (l : List Sym) (x : ByteArray × Int) (m : Fo) : Prop := ∀ (T : ByteArray) (k : Nat), TokX l x m → TokF l m → Sits T k (showN l x m) → Soft T (k + (showN l x m).length) → rdC T l false k = .ok (.node 0 0 x (cleanF m) .nil, k + (showN l x m).length)
def ListSt (l : List Sym) (F : Fo) : Prop := ∀ (T : ByteArray) (k : Nat), TokF l F → Sits T k (showF l false F ++ [41]) → rdC T l true k = .ok (cleanF F, k + (showF l false F).length + 1)
def KidsSt (l : List Sym) : Fo → Prop
  | .nil => True
  | .node _ _ x m r => TermSt l x m ∧ ListSt l r
theorem size_zero {b : ByteArray} (h : b.size = 0) : b = ⟨#[]⟩ := ext_bt h (fun j hj => by omega)
theorem soft_list {T : ByteArray} {k : Nat} {l : List Sym} {F : Fo} (h : Sits T k (showF l false F ++ [41])) : Soft T k := by
  cases F with
  | nil =>
    obtain ⟨h1, h2, _⟩ := sits_one (b := []) h
    exact soft_sign h1 (.inl h2)
  | node b o x m r =>
    rw [showF_node] at h
    have h' : Sits T k (44 :: (showN l x m ++ showF l false r ++ [41])) := h
    obtain ⟨h1, h2, _⟩ := sits_one h'
    exact soft_sign h1 (.inr h2)
theorem showF_first (l : List Sym) (b o : Nat) (x : ByteArray × Int) (m r : Fo) : showF l true (.node b o x m r) = showN l x m ++ showF l false r := by
  rw [showF_node]; rfl
theorem termSt_of {l : List Sym} {x : ByteArray × Int} {m : Fo} (hm : KidsSt l m) : TermSt l x m := by
  intro T k hx hF hs hsoft
  have hk : k ≤ T.size := by have := hs.1; omega
  rw [rdC_eq hk]
  unfold rd1
  dsimp only
  unfold TokX at hx
  unfold showN at hs hsoft ⊢
  by_cases h0 : x.1.size = 0
  · rw [if_pos h0] at hx hs hsoft ⊢
    obtain ⟨ht, hfb, hfi⟩ := hx
    have hx1 := size_zero h0
    have hz : (symB l x.2).data.toList.length = (symB l x.2).size := rfl
    cases m with
    | nil =>
      have e : (if lenF (.nil : Fo) = 0 then ([] : List UInt8) else [40] ++ showF l true .nil ++ [41]) = [] := if_pos rfl
      rw [e, List.append_nil] at hs hsoft ⊢
      rw [hz] at hsoft ⊢
      have hn := nx_tok ht hs (hsoft.stop _)
      rw [next_of hn rfl (by dsimp only; decide)]
      dsimp only
      rw [if_neg (by decide), if_pos rfl, if_pos hfb, pass_no hsoft.fine hsoft.none]
      dsimp only
      rw [hfi, ← hx1]
      rfl
    | node b o y c r =>
      have e : (if lenF (.node b o y c r : Fo) = 0 then ([] : List UInt8) else [40] ++ showF l true (.node b o y c r) ++ [41]) = [40] ++ (showN l y c ++ showF l false r) ++ [41] := by rw [if_neg (by simp [lenF]), showF_first]
      rw [e] at hs hsoft ⊢
      obtain ⟨s1, s2⟩ := sits_append hs
      rw [hz] at s2
      have s2' : Sits T (k + (symB l x.2).size) (40 :: (showN l y c ++ (showF l false r ++ [41]))) := by simpa [List.append_assoc] using s2
      obtain ⟨h1, h2, s3⟩ := sits_one s2'
      have hn := nx_tok ht s1 (by rw [h2]; exact tail_not _ (.inr (.inr (.inl rfl))))
      obtain ⟨s4, s5⟩ := sits_append s3
      obtain ⟨_, hFc, hFr⟩ := hF
      rw [next_of hn rfl (by dsimp only; decide)]
      dsimp only
      rw [if_neg (by decide), if_pos rfl, if_pos hfb, pass_of (nx_sign h1 h2 (.inl ⟨rfl, rfl⟩)) rfl rfl]
      dsimp only
      rw [hm.1 T _ (by assumption) hFc s4 (soft_list s5)]
      dsimp only
      rw [hm.2 T _ hFr s5]
      dsimp only
      rw [hfi, ← hx1]
      simp only [List.length_append, hz, List.length_cons, List.length_nil, cleanF]
      congr 2
      omega
  · rw [if_neg h0] at hx hs hsoft ⊢
    obtain ⟨ht, hx2, rfl⟩ := hx
    have hz : x.1.data.toList.length = x.1.size := rfl
    have hn := nx_tok ht hs (hsoft.stop _)
    rw [next_of hn rfl (by dsimp only; decide)]
    dsimp only
    rw [if_pos rfl, ← hx2]
    rfl
theorem back_all (l : List Sym) : ∀ F : Fo, ListSt l F ∧ KidsSt l F
  | .nil => by
    refine ⟨fun T k _ hs => ?_, trivial⟩
    obtain ⟨h1, h2, _⟩ := sits_one (b := []) hs
    have hn := nx_sign h1 h2 (.inr (.inl ⟨rfl, rfl⟩))
    rw [rdC_eq (by omega)]
    unfold rd1
    dsimp only
    rw [pass_no (kd := 5) (by rw [hn]) (by rw [hn]; dsimp only; decide)]
    dsimp only
    rw [want_is (kd := 4) hn rfl rfl (by decide)]
    rfl
  | .node b o x m r => by
    have hm := back_all l m
    have hr := back_all l r
    have ht : TermSt l x m := termSt_of hm.2
    refine ⟨fun T k hF hs => ?_, ht, hr.1⟩
    obtain ⟨hX, hFm, hFr⟩ := hF
    rw [showF_node] at hs ⊢
    have hs' : Sits T k (44 :: (showN l x m ++ (showF l false r ++ [41]))) := by simpa [List.append_assoc] using hs
    obtain ⟨h1, h2, s1⟩ := sits_one hs'
    obtain ⟨s2, s3⟩ := sits_append s1
    rw [rdC_eq (by omega)]
    unfold rd1
    dsimp only
    rw [pass_of (nx_sign h1 h2 (.inr (.inr ⟨rfl, rfl⟩))) rfl rfl]
    dsimp only
    rw [ht T _ hX hFm s2 (soft_list s3)]
    dsimp only
    rw [hr.1 T _ hFr s3]
    dsimp only
    simp only [List.length_append, List.length_cons, List.length_nil, cleanF, Bool.false_eq_true, if_false]
    congr 2
    omega

theorem find_back {l : List Sym} {t : ByteArray} (h : findB l t = true) : symB l (findI l t) = t := by
  unfold findB at h
  obtain ⟨i, hi⟩ := Option.isSome_iff_exists.1 h
  have hi' := hi
  unfold findL at hi'
  rw [List.findIdx?_eq_some_iff_getElem] at hi'
  obtain ⟨hlt, hs, _⟩ := hi'
  have e : findI l t = (i : Int) := by unfold findI; rw [hi]
  rw [e]
  unfold symB
  rw [if_pos (by omega)]
  have e2 : l.getD (i : Int).toNat ⟨⟨#[]⟩, 0, 0, ⟨#[]⟩⟩ = l[i] := by simp [List.getD, hlt]
  rw [e2]
  exact (bytes_eq_iff _ _).1 hs
/-- What was read can be shown: how long that is. -/
def TokR (l : List Sym) (k : Nat) : Bool → Fo → Nat → Prop
  | false, F, k' => ∃ x m, F = .node 0 0 x m .nil ∧ TokX l x m ∧ TokF l m ∧ cleanF m = m ∧ k + (showN l x m).length ≤ k'
  | true, F, k' => TokF l F ∧ cleanF F = F ∧ k + (showF l false F).length + 1 ≤ k'
theorem next_nx {s : ByteArray} {k : Nat} {r : Nx} (h : nextP s k = .ok r) : nx s k = r := by
  unfold nextP at h
  cases hl : lookP s k with
  | error e => rw [hl] at h; cases h
  | ok q =>
    rw [hl] at h
    dsimp only at h
    split at h
    · cases h
    · cases h; exact look_ok hl
theorem tok_lone {l : List Sym} {t : ByteArray} (ht : TokB 1 t) (hf : findB l t = true) (m : Fo) : TokX l (⟨#[]⟩, findI l t) m := by
  have e0 : ((⟨#[]⟩ : ByteArray), findI l t).1.size = 0 := rfl
  unfold TokX
  rw [if_pos e0]
  dsimp only
  rw [find_back hf]
  exact ⟨ht, hf, rfl⟩
theorem show_lone {l : List Sym} {t : ByteArray} (hf : findB l t = true) (m : Fo) : (showN l (⟨#[]⟩, findI l t) m).length = t.size + (if lenF m = 0 then 0 else (showF l true m).length + 2) := by
  have e0 : ((⟨#[]⟩ : ByteArray), findI l t).1.size = 0 := rfl
  unfold showN
  rw [if_pos e0]
  dsimp only
  rw [find_back hf, List.length_append]
  have hz : t.data.toList.length = t.size := rfl
  rw [hz]
  split <;> simp
theorem rd_tok (s : ByteArray) (l : List Sym) : ∀ (z : Nat) (m : Bool) (k : Nat) (F : Fo) (k' : Nat), s.size - k ≤ z → k ≤ s.size → rdC s l m k = .ok (F, k') → TokR l k m F k' := by
  intro z
  induction z using Nat.strongRecOn with
  | ind z ih =>
    intro m k F k' hz hk h
    rw [rdC_eq hk] at h
    cases m with
    | false =>
      unfold rd1 at h
      dsimp only at h
      cases hn : nextP s k with
      | error e => rw [hn] at h; cases h
      | ok r =>
        rw [hn] at h
        dsimp only at h
        have h0 := next_ok hk hn
        have hx := next_nx hn
        split at h
        · rename_i h2
          obtain ⟨ht, hle⟩ := tok_of_nx (s := s) (k := k) (.inr (by rw [hx]; exact h2))
          rw [hx, h2] at ht
          rw [hx] at hle
          cases h
          have hp := ht.pos
          refine ⟨_, _, rfl, ?_, trivial, rfl, ?_⟩
          · unfold TokX
            rw [if_neg (show ¬ (r.word.text, (0 : Int)).1.size = 0 by dsimp only; omega)]
            exact ⟨ht, rfl, rfl⟩
          · unfold showN
            rw [if_neg (show ¬ (r.word.text, (0 : Int)).1.size = 0 by dsimp only; omega)]
            exact hle
        · split at h
          · rename_i h1
            obtain ⟨ht, hle⟩ := tok_of_nx (s := s) (k := k) (.inl (by rw [hx]; exact h1))
            rw [hx, h1] at ht
            rw [hx] at hle
            split at h
            · rename_i hf
              cases hp : passP s r.to 3 with
              | error e => rw [hp] at h; cases h
              | ok q =>
                obtain ⟨b, k1⟩ := q
                rw [hp] at h
                cases b with
                | false =>
                  have := pass_false hp
                  cases h
                  refine ⟨_, _, rfl, tok_lone ht hf _, trivial, rfl, ?_⟩
                  rw [show_lone hf, if_pos (show lenF (.nil : Fo) = 0 from rfl)]
                  omega
                | true =>
                  have h1 := pass_true h0.2 (by decide) hp
                  dsimp only at h
                  cases hr : rdC s l false k1 with
                  | error e => rw [hr] at h; cases h
                  | ok q =>
                    obtain ⟨G, k2⟩ := q
                    have h2 := rdC_to h1.2 hr
                    obtain ⟨y, c, rfl, hX, hF, hc, hle1⟩ := ih (s.size - k1) (by omega) false k1 G k2 (Nat.le_refl _) h1.2 hr
                    rw [hr] at h
                    dsimp only at h
                    cases ht2 : rdC s l true k2 with
                    | error e => rw [ht2] at h; cases h
                    | ok q =>
                      obtain ⟨G2, k3⟩ := q
                      have h3 := rdC_to h2.2 ht2
                      obtain ⟨hF2, hc2, hle2⟩ := ih (s.size - k2) (by omega) true k2 G2 k3 (Nat.le_refl _) h2.2 ht2
                      rw [ht2] at h
                      cases h
                      refine ⟨_, _, rfl, tok_lone ht hf _, ⟨hX, hF, hF2⟩, by unfold cleanF; rw [hc, hc2], ?_⟩
                      rw [show_lone hf, if_neg (by simp [lenF]), showF_first, List.length_append]
                      omega
            · cases h
          · cases h
    | true =>
      unfold rd1 at h
      dsimp only at h
      cases hp : passP s k 5 with
      | error e => rw [hp] at h; cases h
      | ok q =>
        obtain ⟨b, k1⟩ := q
        rw [hp] at h
        cases b with
        | false =>
          dsimp only at h
          cases hw : wantP s k 4 with
          | error e => rw [hw] at h; cases h
          | ok r =>
            rw [hw] at h
            have := want_ok hk hw
            cases h
            refine ⟨trivial, rfl, ?_⟩
            show k + 0 + 1 ≤ _
            omega
        | true =>
          have h1 := pass_true hk (by decide) hp
          dsimp only at h
          cases hr : rdC s l false k1 with
          | error e => rw [hr] at h; cases h
          | ok q =>
            obtain ⟨G, k2⟩ := q
            have h2 := rdC_to h1.2 hr
            obtain ⟨y, c, rfl, hX, hF, hc, hle1⟩ := ih (s.size - k1) (by omega) false k1 G k2 (Nat.le_refl _) h1.2 hr
            rw [hr] at h
            dsimp only at h
            cases ht2 : rdC s l true k2 with
            | error e => rw [ht2] at h; cases h
            | ok q =>
              obtain ⟨G2, k3⟩ := q
              have h3 := rdC_to h2.2 ht2
              obtain ⟨hF2, hc2, hle2⟩ := ih (s.size - k2) (by omega) true k2 G2 k3 (Nat.le_refl _) h2.2 ht2
              rw [ht2] at h
              cases h
              refine ⟨⟨hX, hF, hF2⟩, by unfold cleanF; rw [hc, hc2], ?_⟩
              rw [showF_node, List.length_append, List.length_append]
              simp only [Bool.false_eq_true, if_false, List.length_cons, List.length_nil]
              omega
/-- No byte of it is a blank. -/
theorem tok_no {kd : Int} {b : ByteArray} (h : TokB kd b) : ∀ c ∈ b.data.toList, c ≠ 32 := by
  intro c hc e
  subst e
  obtain ⟨j, hj, hb⟩ := List.getElem_of_mem hc
  have hj' : j < b.size := hj
  have hbt : bt b j = 32 := by
    rw [bt_of hj']
    have : (b[j]'hj') = 32 := hb
    rw [this]; rfl
  by_cases h0 : j = 0
  · subst h0
    have := tok_first h
    omega
  · have := h.tail j (by omega) hj'
    rw [hbt, tail_not _ (.inr (.inl rfl))] at this
    cases this
theorem show_no {l : List Sym} {x : ByteArray × Int} {m : Fo} (hx : TokX l x m) (hm : ∀ c ∈ showF l true m, c ≠ 32) : ∀ c ∈ showN l x m, c ≠ 32 := by
  intro c hc
  unfold TokX at hx
  unfold showN at hc
  by_cases h0 : x.1.size = 0
  · rw [if_pos h0] at hx hc
    rcases List.mem_append.1 hc with h | h
    · exact tok_no hx.1 c h
    · split at h
      · cases h
      · rcases List.mem_append.1 h with h | h
        · rcases List.mem_append.1 h with h | h
          · rw [List.mem_singleton.1 h]; decide
          · exact hm c h
        · rw [List.mem_singleton.1 h]; decide
  · rw [if_neg h0] at hx hc
    exact tok_no hx.1 c hc
theorem shows_no (l : List Sym) : ∀ (F : Fo) (f : Bool), TokF l F → ∀ c ∈ showF l f F, c ≠ 32
  | .nil, _, _ => fun c hc => by cases hc
  | .node b o x m r, f, ⟨hX, hm, hr⟩ => by
    intro c hc
    rw [showF_node] at hc
    rcases List.mem_append.1 hc with h | h
    · rcases List.mem_append.1 h with h | h
      · split at h
        · cases h
        · rw [List.mem_singleton.1 h]; decide
      · exact show_no hX (shows_no l m true hm) c h
    · exact shows_no l r false hr c h
theorem sits_self (bs : List UInt8) : Sits ⟨bs.toArray⟩ 0 bs := by
  refine ⟨by rw [Nat.zero_add]; exact Nat.le_refl _, fun j hj => ?_⟩
  rw [Nat.zero_add, bt_of (s := ⟨bs.toArray⟩) (j := j) hj]
  rfl
/-- A text that holds one term alone. -/
theorem term_back {l : List Sym} {x : ByteArray × Int} {m : Fo} (hX : TokX l x m) (hF : TokF l m) (hz : (showN l x m).length ≤ 800) : termR ⟨(showN l x m).toArray⟩ l = .ok (x, cleanF m) := by
  have hsz : (⟨(showN l x m).toArray⟩ : ByteArray).size = (showN l x m).length := rfl
  have h := termSt_of (back_all l m).2 ⟨(showN l x m).toArray⟩ 0 hX hF (sits_self _) (by rw [Nat.zero_add, ← hsz]; exact soft_end)
  rw [Nat.zero_add, ← hsz] at h
  unfold rdC at h
  unfold termR
  rw [if_neg (by rw [hsz]; omega), h]
  dsimp only
  unfold endR
  rw [look_of nx_end rfl]
  rfl
theorem full_again {s : ByteArray} {l : List Sym} {t : Tn} (h : fullR s l = .ok t) : fullR ⟨(showN l t.1 t.2).toArray⟩ l = .ok t ∧ (showN l t.1 t.2).length ≤ s.size ∧ (∀ c ∈ showN l t.1 t.2, c ≠ 32) ∧ s.size ≤ 800 := by
  unfold fullR at h
  cases hr : termR s l with
  | error e => rw [hr] at h; cases h
  | ok q =>
    rw [hr] at h
    dsimp only at h
    split at h
    · rename_i hc
      cases h
      have hr' := hr
      unfold termR at hr
      split at hr
      · cases hr
      · rename_i h8
        cases hd : rdF s l (s.size + 1) false 0 with
        | error e => rw [hd] at hr; cases hr
        | ok p =>
          obtain ⟨F, k⟩ := p
          have hd' : rdC s l false 0 = .ok (F, k) := hd
          have hto := rdC_to (Nat.zero_le _) hd'
          obtain ⟨x, m, rfl, hX, hF, hcl, hle⟩ := rd_tok s l _ false 0 F k (Nat.le_refl _) (Nat.zero_le _) hd'
          rw [hd] at hr
          dsimp only at hr
          cases he : endR s k with
          | error e => rw [he] at hr; cases hr
          | ok r =>
            rw [he] at hr
            cases hr
            refine ⟨?_, (show (showN l x m).length ≤ s.size by omega), show_no hX (shows_no l m true hF), by omega⟩
            unfold fullR
            rw [term_back hX hF (by omega), hcl]
            dsimp only
            rw [if_pos hc]
    · cases h
end Go.Proofs.Ytkcbhbkldcebiaa

namespace Go.Proofs.Ytkcbhbkldcebiaa
open Go.RowKit Go.Deep

/-- A list under way that has nothing to do with the blocks X. -/
structure LstP (X : Nat → Prop) (B : Nat) (W : World) (v : Value) (ks : List Kv) : Prop where
  row : W.ownsRow B 28 3 v ks.length (kvCells ks)
  far : ∀ g, v.ownBlock = some g → ¬ X g
  own : ∀ k ∈ ks, OwnTm false (fun q => (B ≤ q ∧ some q ≠ v.ownBlock) ∧ ¬ X q) W k.x k.a k.c k.l
theorem LstP.lst {X : Nat → Prop} {B : Nat} {W : World} {v : Value} {ks : List Kv} (h : LstP X B W v ks) : Lst B W v ks := ⟨h.row, fun k hk => (h.own k hk).mono (fun _ _ hq => hq.1)⟩
theorem LstP.nil (X : Nat → Prop) (B : Nat) (W : World) : LstP X B W (.slice none 0 0) [] := ⟨World.ownsRow_nil _ _ _ _, fun g hg => by simp [Value.ownBlock] at hg, by simp⟩
theorem LstP.less {X Y : Nat → Prop} {B : Nat} {W : World} {v : Value} {ks : List Kv} (h : LstP X B W v ks) (hY : ∀ q, Y q → X q) : LstP Y B W v ks := ⟨h.row, fun g hg hy => h.far g hg (hY g hy), fun k hk => (h.own k hk).mono (fun _ _ hq => ⟨hq.1, fun hy => hq.2 (hY _ hy)⟩)⟩
/-- Blocks that are not there yet. -/
theorem LstP.more {X Y : Nat → Prop} {B : Nat} {W : World} {v : Value} {ks : List Kv} (h : LstP X B W v ks) (hY : ∀ q, Y q → X q ∨ W.heap.size ≤ q) : LstP Y B W v ks := ⟨h.row, fun g hg hy => (hY g hy).elim (h.far g hg) (fun h1 => by have := h.lst.lt hg; omega), fun k hk => (h.own k hk).mono (fun q hlt hq => ⟨hq.1, fun hy => (hY q hy).elim hq.2 (fun h1 => by omega)⟩)⟩
/-- Only blocks of X have turned. -/
theorem LstP.keep {X : Nat → Prop} {B : Nat} {W W' : World} {v : Value} {ks : List Kv} (h : LstP X B W v ks) (hk : ∀ q, q < W.heap.size → ¬ X q → B ≤ q → W'.heap[q]? = W.heap[q]?) : LstP X B W' v ks :=
  ⟨owns_block h.row (fun g hg => hk g (h.lst.lt hg) (h.far g hg) (owns_cells h.row hg).1), h.far, fun k hk' => (h.own k hk').keep (fun q hq hlt => hk q hlt hq.2 hq.1.1)⟩
theorem LstP.below {X : Nat → Prop} {B : Nat} {W W' : World} {v : Value} {ks : List Kv} (h : LstP X B W v ks) (hb : Below W.heap.size W W') : LstP X B W' v ks := h.keep (fun q hq _ _ => hb.block q hq)
theorem note_memP {X : Nat → Prop} {w W3 w4 W5 : World} {B b g cap k' : Nat} {sg tv : Value} {s : ByteArray} {ks : List Kv} {k : Kv} {o : Obj} (hF : FrB B w W3) (hL : LstP X b w tv ks) (hX : ∀ q, X q → q < w.heap.size) (hb : B < b) (hbw : b ≤ w.heap.size) (hm : OwnTm false (fun q => w.heap.size < q) W3 k.x k.a k.c k.l)
    (hgrow : (W3.alloc o).grownBy w4 tv.ownBlock) (hat : tv.ownBlock = some g ∨ g = W3.heap.size + 1) (hown : W5.ownsRow b 28 3 (.slice (some ⟨g, 0, none⟩) (ks.length + 1) cap) (ks.length + 1) (kvCells ks ++ Kv.cells k))
    (_hbox : RdBox W5 B sg s k' (.slice (some ⟨g, 0, none⟩) (ks.length + 1) cap)) (hlow : Below B w4 W5) (hrest : ∀ q, q ≠ B → q ≠ g → W5.heap[q]? = w4.heap[q]?) :
    LstP (fun q => X q ∨ q = w.heap.size) b W5 (.slice (some ⟨g, 0, none⟩) (ks.length + 1) cap) (ks ++ [k]) ∧ Below B w W5 ∧ (∀ q, q < W3.heap.size → w.heap.size ≤ q → q ≠ B → W5.heap[q]? = W3.heap[q]?) := by
  have hgb : b ≤ g := (owns_cells hown rfl).1
  have hsz := hF.low.size
  have hB1 : ∀ q, q < W3.heap.size → some q ≠ tv.ownBlock → w4.heap[q]? = W3.heap[q]? := fun q hq hn => (hgrow.block q (by rw [World.size_alloc]; omega) hn).trans ((alloc_below0 W3 o).block q hq)
  have hold : ∀ q, tv.ownBlock = some q → q < w.heap.size := fun q hq => hL.lst.lt hq
  have hgn : ∀ q, q < W3.heap.size → some q ≠ tv.ownBlock → q ≠ g := fun q hq hn e => by
    rcases hat with h | h
    · exact hn (by rw [h, e])
    · omega
  have hrest2 : ∀ q, q < W3.heap.size → some q ≠ tv.ownBlock → q ≠ B → W5.heap[q]? = W3.heap[q]? := fun q hq hn hqB => (hrest q hqB (hgn q hq hn)).trans (hB1 q hq hn)
  refine ⟨⟨?_, ?_, fun j hj => ?_⟩, ?_, fun q hq hwq hqB => hrest2 q hq (fun e => by have := hold q e.symm; omega) hqB⟩
  · rw [kvCells_append, List.length_append]
    have e : kvCells [k] = Kv.cells k := by simp [kvCells]
    rw [e]
    exact hown
  · intro g' hg'
    have hg'' : g = g' := Option.some.inj hg'
    subst hg''
    rintro (hx | hx)
    · rcases hat with h | h
      · exact hL.far _ h hx
      · have := hX _ hx; omega
    · rcases hat with h | h
      · have := hold _ h; omega
      · omega
  · show OwnTm false (fun q => (b ≤ q ∧ some q ≠ some g) ∧ ¬ (X q ∨ q = w.heap.size)) W5 j.x j.a j.c j.l
    have h2 : OwnTm false (fun q => (b ≤ q ∧ some q ≠ tv.ownBlock) ∧ ¬ (X q ∨ q = w.heap.size)) W3 j.x j.a j.c j.l := by
      rcases List.mem_append.1 hj with hj | hj
      · have h0 : OwnTm false (fun q => (b ≤ q ∧ some q ≠ tv.ownBlock) ∧ ¬ (X q ∨ q = w.heap.size)) w j.x j.a j.c j.l := (hL.own j hj).mono (fun q hq hp => ⟨hp.1, fun h => h.elim hp.2 (fun h => by omega)⟩)
        exact h0.keep (fun q hq hlt => hF.same q hlt (by have := hq.1.1; omega))
      · simp only [List.mem_singleton] at hj
        subst hj
        exact hm.mono (fun q _ hp => ⟨⟨by omega, fun e => by have := hold q e.symm; omega⟩, fun h => h.elim (fun h => by have := hX q h; omega) (fun h => by omega)⟩)
    have h4 : OwnTm false (fun q => ((b ≤ q ∧ some q ≠ tv.ownBlock) ∧ ¬ (X q ∨ q = w.heap.size)) ∧ q ≠ g) W3 j.x j.a j.c j.l := h2.mono (fun q hq hp => ⟨hp, hgn q hq hp.1.2⟩)
    exact (h4.keep (fun q hq hlt => hrest2 q hlt hq.1.1.2 (by have := hq.1.1.1; omega))).mono (fun q _ hq => ⟨⟨hq.1.1.1, fun e => hq.2 (by cases e; rfl)⟩, hq.1.2⟩)
  · have h1 : Below B w W3 := hF.below (fun _ hk => hk ▸ Nat.le_refl _) (by omega)
    have h2 : Below B w (W3.alloc o) := h1.alloc (by omega) _
    have h3 : Below B w w4 := h2.grown hgrow (by rw [World.size_alloc]; omega) (fun q hq => by have := (owns_cells hL.row hq).1; omega)
    exact h3.trans hlow
/-- The two orders of the stores. -/
theorem note_bothP {X : Nat → Prop} {w W3 w4 : World} {B b g cap k' : Nat} {sg tv tv4 : Value} {s : ByteArray} {ks : List Kv} {k z : Kv} {o : Obj} (hF : FrB B w W3) (hL : LstP X b w tv ks) (hX : ∀ q, X q → q < w.heap.size) (hb : B < b) (hbw : b ≤ w.heap.size) (hm : OwnTm false (fun q => w.heap.size < q) W3 k.x k.a k.c k.l)
    (hgrow : (W3.alloc o).grownBy w4 tv.ownBlock) (hat : tv.ownBlock = some g ∨ g = W3.heap.size + 1) (hown : w4.ownsRow b 28 3 (.slice (some ⟨g, 0, none⟩) (ks.length + 1) cap) (ks.length + 1) (kvCells ks ++ Kv.cells z)) (hbox : RdBox w4 B sg s k' tv4) (W5 : World)
    (hW : W5 = ((((w4.setCell ⟨g, ks.length * 3, none⟩ (.string k.x.1)).setCell ⟨g, ks.length * 3 + 1, none⟩ (.int .i64 k.x.2)).setCell ⟨g, ks.length * 3 + 2, none⟩ (.slice k.a (lenF k.l) k.c)).setCell ⟨B, 3, none⟩ (.slice (some ⟨g, 0, none⟩) (ks.length + 1) cap)) ∨
      W5 = ((((w4.setCell ⟨B, 3, none⟩ (.slice (some ⟨g, 0, none⟩) (ks.length + 1) cap)).setCell ⟨g, ks.length * 3, none⟩ (.string k.x.1)).setCell ⟨g, ks.length * 3 + 1, none⟩ (.int .i64 k.x.2)).setCell ⟨g, ks.length * 3 + 2, none⟩ (.slice k.a (lenF k.l) k.c))) :
    RdBox W5 B sg s k' (.slice (some ⟨g, 0, none⟩) (ks.length + 1) cap) ∧ LstP (fun q => X q ∨ q = w.heap.size) b W5 (.slice (some ⟨g, 0, none⟩) (ks.length + 1) cap) (ks ++ [k]) ∧ Below B w W5 ∧ (∀ q, q < W3.heap.size → w.heap.size ≤ q → q ≠ B → W5.heap[q]? = W3.heap[q]?) := by
  have hgb : b ≤ g := (owns_cells hown rfl).1
  have hBg : B ≠ g := by omega
  suffices h : W5.ownsRow b 28 3 (.slice (some ⟨g, 0, none⟩) (ks.length + 1) cap) (ks.length + 1) (kvCells ks ++ Kv.cells k) ∧ RdBox W5 B sg s k' (.slice (some ⟨g, 0, none⟩) (ks.length + 1) cap) ∧ Below B w4 W5 ∧ (∀ q, q ≠ B → q ≠ g → W5.heap[q]? = w4.heap[q]?) by
    obtain ⟨h1, h2, h3, h4⟩ := h
    obtain ⟨n1, n2, n3⟩ := note_memP hF hL hX hb hbw hm hgrow hat h1 h2 h3 h4
    exact ⟨h2, n1, n2, n3⟩
  have hsets : ∀ W : World, Below B W (((W.setCell ⟨g, ks.length * 3, none⟩ (.string k.x.1)).setCell ⟨g, ks.length * 3 + 1, none⟩ (.int .i64 k.x.2)).setCell ⟨g, ks.length * 3 + 2, none⟩ (.slice k.a (lenF k.l) k.c)) := fun W => set_low (set_low (set_low (Below.refl _ W) (by omega) _) (by omega) _) (by omega) _
  rcases hW with rfl | rfl
  · have h1 := (owns_three hown (.string k.x.1) (.int .i64 k.x.2) (.slice k.a (lenF k.l) k.c)).1
    rw [kvCells_len] at h1
    refine ⟨owns_block h1 (fun g' hg' => ?_), ?_, set_low (hsets w4) (Nat.le_refl _) _, fun q hqB hqg => (set_far hqB _).trans (sets_far3 hqg _ _ _)⟩
    · cases hg'
      exact set_far hBg.symm _
    · have h2 : RdBox (((w4.setCell ⟨g, ks.length * 3, none⟩ (.string k.x.1)).setCell ⟨g, ks.length * 3 + 1, none⟩ (.int .i64 k.x.2)).setCell ⟨g, ks.length * 3 + 2, none⟩ (.slice k.a (lenF k.l) k.c)) B sg s k' tv4 := (sets_far3 hBg _ _ _).trans hbox
      exact h2.set3 _
  · have h0 : (w4.setCell ⟨B, 3, none⟩ (.slice (some ⟨g, 0, none⟩) (ks.length + 1) cap)).ownsRow b 28 3 (.slice (some ⟨g, 0, none⟩) (ks.length + 1) cap) (ks.length + 1) (kvCells ks ++ Kv.cells z) := owns_block hown (fun g' hg' => by cases hg'; exact set_far hBg.symm _)
    have h1 := (owns_three h0 (.string k.x.1) (.int .i64 k.x.2) (.slice k.a (lenF k.l) k.c)).1
    rw [kvCells_len] at h1
    exact ⟨h1, (sets_far3 hBg _ _ _).trans (hbox.set3 _), (set_low (Below.refl _ w4) (Nat.le_refl _) _).trans (hsets _), fun q hqB hqg => (sets_far3 hqg _ _ _).trans (set_far hqB _)⟩

theorem note_leafP {X : Nat → Prop} {w W3 w4 : World} {B b g cap k' N : Nat} {sg tv tv4 : Value} {s : ByteArray} {ks : List Kv} {k z : Kv} {o : Obj} (hF : FrB B w W3) (hL : LstP X b w tv ks) (hX : ∀ q, X q → q < w.heap.size) (hb : B < b) (hbw : b ≤ w.heap.size) (hm : OwnTm false (fun q => w.heap.size < q) W3 k.x k.a k.c k.l)
    (hgrow : (W3.alloc o).grownBy w4 tv.ownBlock) (hat : tv.ownBlock = some g ∨ g = W3.heap.size + 1) (hown : w4.ownsRow b 28 3 (.slice (some ⟨g, 0, none⟩) (ks.length + 1) cap) (ks.length + 1) (kvCells ks ++ Kv.cells z)) (hbox : RdBox w4 B sg s k' tv4) {W5 : World}
    (hW : W5 = ((((w4.setCell ⟨g, ks.length * 3, none⟩ (.string k.x.1)).setCell ⟨g, ks.length * 3 + 1, none⟩ (.int .i64 k.x.2)).setCell ⟨g, ks.length * 3 + 2, none⟩ (.slice k.a (lenF k.l) k.c)).setCell ⟨B, 3, none⟩ (.slice (some ⟨g, 0, none⟩) (ks.length + 1) cap)) ∨
      W5 = ((((w4.setCell ⟨B, 3, none⟩ (.slice (some ⟨g, 0, none⟩) (ks.length + 1) cap)).setCell ⟨g, ks.length * 3, none⟩ (.string k.x.1)).setCell ⟨g, ks.length * 3 + 1, none⟩ (.int .i64 k.x.2)).setCell ⟨g, ks.length * 3 + 2, none⟩ (.slice k.a (lenF k.l) k.c)))
    (hXN : XBox W3 N k.x (.slice k.a (lenF k.l) k.c)) (hZ : XBox W3 w.heap.size (⟨#[]⟩, 0) (.slice none 0 0)) (hN : N < W3.heap.size) (hwN : w.heap.size < N) (hBw : B < w.heap.size) :
    ∃ g' cap', (Value.slice (some ⟨g, 0, none⟩) (ks.length + 1) cap) = .slice (some ⟨g', 0, none⟩) (ks.length + 1) cap' ∧ RdBox W5 B sg s k' (.slice (some ⟨g, 0, none⟩) (ks.length + 1) cap) ∧ LstP (fun q => X q ∨ q = w.heap.size) b W5 (.slice (some ⟨g, 0, none⟩) (ks.length + 1) cap) (ks ++ [k]) ∧ Below B w W5 ∧ XBox W5 N k.x (.slice k.a (lenF k.l) k.c) ∧ XBox W5 w.heap.size (⟨#[]⟩, 0) (.slice none 0 0) ∧ (∀ q, q < w.heap.size → q ≠ B → some q ≠ tv.ownBlock → W5.heap[q]? = w.heap[q]?) := by
  obtain ⟨e1, e2, e3, e4⟩ := note_bothP hF hL hX hb hbw hm hgrow hat hown hbox W5 hW
  have hgb : b ≤ g := (owns_cells hown rfl).1
  have hsz := hF.low.size
  refine ⟨g, cap, rfl, e1, e2, e3, (e4 N hN (by omega) (by omega)).trans hXN, (e4 _ (by omega) (Nat.le_refl _) (by omega)).trans hZ, fun q hq hB hn => ?_⟩
  have hqg : q ≠ g := fun e => by
    rcases hat with h | h
    · exact hn (by rw [h, e])
    · omega
  have h7 : W5.heap[q]? = w4.heap[q]? := by
    rcases hW with rfl | rfl
    · exact (set_far hB _).trans (sets_far3 hqg _ _ _)
    · exact (sets_far3 hqg _ _ _).trans (set_far hB _)
  exact h7.trans (((hgrow.block q (by rw [World.size_alloc]; omega) hn).trans ((alloc_below0 W3 o).block q (by omega))).trans (hF.same q hq hB))

/-- How whole ends, what it does not touch, and what the list has nothing to do with. -/
def WholeP (X : Nat → Prop) (B : Nat) (sg : Value) (s : ByteArray) (b : Nat) (tv : Value) (ks : List Kv) (w : World) (res : Except (Int × Nat) (Fo × Nat)) (e : Ending) (w' : World) : Prop := (match res with
    | .error p => e = faultP p.1 p.2
    | .ok (F, k') => ∃ (k : Kv) (tv' : Value), F = .node 0 0 k.x k.l .nil ∧ e = .returned (.agg #[.string k.x.1, .int .i64 k.x.2, .slice k.a (lenF k.l) k.c]) ∧ RdBox w' B sg s k' tv' ∧ LstP X b w' tv' (ks ++ [k]) ∧ (∀ q, q < w.heap.size → q ≠ B → some q ≠ tv.ownBlock → w'.heap[q]? = w.heap[q]?)) ∧ Below B w w'
set_option maxRecDepth 100000 in
set_option maxHeartbeats 4000000 in
theorem whole_p {X : Nat → Prop} {w0 : World} {B : Nat} {S : Option Addr} {n cap : Nat} {l : List Sym} {s : ByteArray} (hB0 : w0.heap.size ≤ B) (hs : s.size ≤ 800) (hS : SigAt w0 S n l) (b : Nat) (hb : B < b) (k : Nat) (tv : Value) (ks : List Kv) (w : World) (hk : k ≤ s.size) (hlen : ks.length ≤ k) (hB : RdBox w B (.slice S n cap) s k tv) (hL : Below w0.heap.size w0 w) (hT : LstP X b w tv ks) (hX : ∀ q, X q → q < w.heap.size) (hbw : b ≤ w.heap.size) :
    Calls Try.prog 32 #[.pointer (some ⟨B, 0, none⟩)] w fun e w' => WholeP X B (.slice S n cap) s b tv ks w (rdC s l false k) e w' := by
  have B0 := alloc_below0 w (.cells #[.string ⟨#[]⟩, .int .i64 0, .slice none 0 0] 28)
  have ht := term_all (tv := tv) (cap := cap) hB0 hs hS (s.size - k) k (w.alloc (.cells #[.string ⟨#[]⟩, .int .i64 0, .slice none 0 0] 28)) hk (Nat.le_refl _) (hB.below B0) (hL.trans (B0.mono hL.size))
  go_enter Try.func32, Try.ntmps32
  go_wp2_with fail
  cases hr : rdC s l false k with
  | error p =>
    rw [hr] at ht
    unfold TermEnd at ht
    dsimp only at ht
    unfold faultP at ht
    refine ht.mono ?_
    rintro e w2 ⟨rfl, hf2⟩
    go_wp2
    exact ⟨rfl, by rw [hr]; exact ⟨rfl, ((Fr.of_below B0).trans hf2).below (fun _ hk => hk ▸ Nat.le_refl _) (Nat.le_of_lt hB.lt)⟩⟩
  | ok q =>
    obtain ⟨G, k'⟩ := q
    have hk2 := rdC_to hk hr
    rw [hr] at ht
    unfold TermEnd at ht
    dsimp only at ht
    refine ht.mono ?_
    rintro e w2 ⟨⟨x, m, ta, tc, rfl, rfl, ho2, hrb2⟩, hf2⟩
    go_wp2_with fail
    have hz1 := hf2.low.size
    rw [World.size_alloc] at hz1
    obtain ⟨i0, hi, hz0, hz1', hz2⟩ := info_parts Try.info28
    have B2 := alloc_below0 w2 (.cells #[.string x.1, .int .i64 x.2, .slice ta (lenF m) tc] 28)
    have X3 : Hid (XBox (w2.alloc (.cells #[.string x.1, .int .i64 x.2, .slice ta (lenF m) tc] 28)) w2.heap.size x (.slice ta (lenF m) tc)) := World.alloc_heap_new w2 _
    have Z0 : XBox (w.alloc (.cells #[.string ⟨#[]⟩, .int .i64 0, .slice none 0 0] 28)) w.heap.size (⟨#[]⟩, 0) (.slice none 0 0) := World.alloc_heap_new w _
    have Z2 : XBox w2 w.heap.size (⟨#[]⟩, 0) (.slice none 0 0) := (hf2.same w.heap.size (by rw [World.size_alloc]; omega) (by have := hB.lt; omega)).trans Z0
    have Z3 := hid (Z2.below B2)
    have R3 := hid (hrb2.below B2)
    have F3 : Hid (FrB B w (w2.alloc (.cells #[.string x.1, .int .i64 x.2, .slice ta (lenF m) tc] 28))) := hid (((Fr.of_below B0).trans hf2).trans (Fr.of_below B2))
    have O3 : Hid (OwnTm false (fun q => w.heap.size < q) (w2.alloc (.cells #[.string x.1, .int .i64 x.2, .slice ta (lenF m) tc] 28)) x ta tc m) := hid ((ho2.mono (fun q _ hq => by rw [World.size_alloc] at hq; omega)).below B2)
    have LT := hid hT
    obtain ⟨a0, c0, htv, hcc, hcm, hrow0, hnone, hsome⟩ := row_of_owns hT.row
    have L3 : Hid (Lst b (w2.alloc (.cells #[.string x.1, .int .i64 x.2, .slice ta (lenF m) tc] 28)) tv ks) := hid (hT.lst.fr F3.out hb)
    have hs3 : Hid ((w2.alloc (.cells #[.string x.1, .int .i64 x.2, .slice ta (lenF m) tc] 28)).heap.size = w2.heap.size + 1) := by show _ = _; rw [World.size_alloc]
    have hbB := hB.lt
    clear ht hf2 hrb2 ho2 Z0 Z2 B2 B0 hT hL hrow0 hnone hsome hB hcc hcm
    subst htv
    have HW : Hid (w.heap.size < w2.heap.size) := by show _ < _; omega
    have q3 := R3.out.c3; have f3 := R3.out.f (i := 3)
    have x0 := X3.out.c0; have x1 := X3.out.c1; have x2 := X3.out.c2
    generalize w2.alloc (.cells #[.string x.1, .int .i64 x.2, .slice ta (lenF m) tc] 28) = W3 at X3 Z3 R3 F3 O3 L3 hs3 q3 f3 x0 x1 x2 ⊢
    have BZ := alloc_below0 W3 (.cells #[.string ⟨#[]⟩, .int .i64 0, .slice none 0 0] 28)
    have x0' := (X3.out.below BZ).c0; have x1' := (X3.out.below BZ).c1; have x2' := (X3.out.below BZ).c2; have q3' := (R3.out.below BZ).c3
    clear BZ
    have hidx : ((ks.length : Nat) : Int) < (ks.length : Int) + 1 := by omega
    go_cut [13] (fun v wc => ∃ g cap', v = .slice (some ⟨g, 0, none⟩) (ks.length + 1) cap' ∧ RdBox wc B (.slice S n cap) s k' v ∧ LstP (fun q => X q ∨ q = w.heap.size) b wc v (ks ++ [⟨x, m, ta, tc⟩]) ∧ Below B w wc ∧ XBox wc w2.heap.size x (.slice ta (lenF m) tc) ∧ XBox wc w.heap.size (⟨#[]⟩, 0) (.slice none 0 0) ∧ (∀ q, q < w.heap.size → q ≠ B → some q ≠ (Value.slice a0 ks.length c0).ownBlock → wc.heap[q]? = w.heap[q]?))
    case first =>
      go_region_law (refine step_append_lies _ (by rfl) (.tmp 9) (.tmp 12) 26 (by rfl) b 28 i0 _ 3 48 Try.underlying26 hi hz0 hz1' hz2 rfl (by decide) (.slice a0 ks.length c0) ks.length (kvCells ks) (by rfl) (owns_below L3.out.row ((Below.refl _ W3).alloc (Nat.le_refl _) _).drew) ⟨W3.heap.size, 0, none⟩ 1 1 (Kv.cells ⟨(⟨#[]⟩, 0), .nil, none, 0⟩) (by rfl) rfl (World.news_of_block (heap_alloc_new W3 _)) (kv_one _) (by decide) (by unfold maxLen; omega) (by omega) (by simp; have := hs3.out; have := HW.out; omega) _ rfl ?_; intro g4 cap4 w4 hown4 hgrow4 hat4 hlt4; have hg4 : b ≤ g4 := (owns_cells hown4 rfl).1; have hgB : ¬ g4 = B := (by omega); have hBg : ¬ B = g4 := fun e => hgB e.symm; have R4 : Hid (RdBox w4 B (.slice S n cap) s k' (.slice a0 ks.length c0)) := hid ((hgrow4.block B (by have := hs3.out; have := HW.out; simp; omega) (fun e => by have := (owns_cells L3.out.row e.symm).1; omega)).trans (R3.out.below (alloc_below0 W3 _).drew)); have r3 := R4.out.c3; have rf3 := R4.out.f (i := 3); have z0 : w4.cell? ⟨g4, ks.length * 3, none⟩ = some (.string ⟨#[]⟩) := owns_slot hown4 0 (by simp [Kv.cells]); have z1 : w4.cell? ⟨g4, ks.length * 3 + 1, none⟩ = some (.int .i64 0) := owns_slot hown4 1 (by simp [Kv.cells]); have z2 : w4.cell? ⟨g4, ks.length * 3 + 2, none⟩ = some (.slice none 0 0) := owns_slot hown4 2 (by simp [Kv.cells]); have y0 := hown4.frozenAt (ks.length * 3); have y1 := hown4.frozenAt (ks.length * 3 + 1); have y2 := hown4.frozenAt (ks.length * 3 + 2); have HO4 := hid hown4; have HG4 := hid (undrew hgrow4); have HA4 := hid hat4; clear hown4 hgrow4 hat4)
      all_goals (go_wp2_with fail; go_meet)
      all_goals
        refine note_leafP (k := ⟨x, m, ta, tc⟩) F3.out LT.out hX hb hbw O3.out HG4.out (HA4.out.imp id (fun e => by simpa using e)) HO4.out R4.out ?_ X3.out Z3.out (by have := hs3.out; omega) HW.out hbB
        first
          | (exact .inl (by with_reducible rfl))
          | (exact .inr (by with_reducible rfl))
    case rest =>
      obtain ⟨g, cap', rfl, hR, hLs, hlow, hX, hZ, hrst⟩ := hcut
      have HRST := hid hrst
      have HR := hid hR; have HLs := hid hLs; have HL := hid hlow; have HZ := hid hZ
      have u0 := hX.c0; have u1 := hX.c1; have u2 := hX.c2
      have z0 := hZ.c0; have z1 := hZ.c1; have z2 := hZ.c2
      have y0 := hZ.f (k := 0); have y1 := hZ.f (k := 1); have y2 := hZ.f (k := 2)
      clear hR hLs hlow hZ hX hrst X3 Z3 R3 F3 O3 L3 LT
      go_wp2
      refine bodyPost_ret (results_cell_row rfl _ _ w.heap.size 28 #[.string x.1, .int .i64 x.2, .slice ta (lenF m) tc] (0, 0) _ rfl (HZ.out.all (x := x) _) Try.underlying28 rfl Try.size28) rfl ?_
      exact ⟨⟨⟨x, m, ta, tc⟩, _, rfl, rfl, (sets_far (by omega) _ _ _).trans HR.out, (HLs.out.keep (fun q _ hq _ => sets_far (fun e => hq (.inr e)) _ _ _)).less (fun _ h => .inl h), fun q hq hB hn => (sets_far (by omega) _ _ _).trans (HRST.out q hq hB hn)⟩, sets_below HL.out (by omega) _ _ _⟩
end Go.Proofs.Ytkcbhbkldcebiaa

namespace Go.Proofs.Ytkcbhbkldcebiaa
open Go.RowKit Go.Deep

/-- A bind's box. -/
def BBox (W : World) (B : Nat) (v : ByteArray) (x : ByteArray × Int) (u : Value) : Prop := W.heap[B]? = some (.cells #[.string v, .string x.1, .int .i64 x.2, u] 50 (0, 0))
theorem BBox.c {W : World} {B : Nat} {v : ByteArray} {x : ByteArray × Int} {u : Value} (h : BBox W B v x u) (i : Nat) (hi : i < 4 := by decide) : W.cell? ⟨B, i, none⟩ = some ((#[.string v, .string x.1, .int .i64 x.2, u] : Array Value)[i]'hi) := by
  simp [World.cell?, show W.heap[B]? = _ from h]
theorem BBox.f {W : World} {B : Nat} {v : ByteArray} {x : ByteArray × Int} {u : Value} (h : BBox W B v x u) (i : Nat) : W.frozen? ⟨B, i, none⟩ = false := by simp [World.frozen?, show W.heap[B]? = _ from h]
theorem BBox.lt {W : World} {B : Nat} {v : ByteArray} {x : ByteArray × Int} {u : Value} (h : BBox W B v x u) : B < W.heap.size := (Array.getElem?_eq_some_iff.1 h).1
theorem bbox_all {W : World} {B : Nat} {v : ByteArray} {x : ByteArray × Int} {u : Value} (h : BBox W B v x u) (v' : ByteArray) (x' : ByteArray × Int) (u' : Value) :
    BBox ((((W.setCell ⟨B, 0, none⟩ (.string v')).setCell ⟨B, 1, none⟩ (.string x'.1)).setCell ⟨B, 2, none⟩ (.int .i64 x'.2)).setCell ⟨B, 3, none⟩ u') B v' x' u' := by
  have := block_set (k := 3) (block_set (k := 2) (block_set (k := 1) (block_set (k := 0) h (.string v')) (.string x'.1)) (.int .i64 x'.2)) u'
  exact this
theorem sets_far4 {W : World} {B q : Nat} (h : q ≠ B) (a b c d : Value) : ((((W.setCell ⟨B, 0, none⟩ a).setCell ⟨B, 1, none⟩ b).setCell ⟨B, 2, none⟩ c).setCell ⟨B, 3, none⟩ d).heap[q]? = W.heap[q]? := (set_far h d).trans (sets_far h a b c)
theorem sets_low4 {n0 : Nat} {w W : World} {B : Nat} (hb : Below n0 w W) (h : n0 ≤ B) (a b c d : Value) : Below n0 w ((((W.setCell ⟨B, 0, none⟩ a).setCell ⟨B, 1, none⟩ b).setCell ⟨B, 2, none⟩ c).setCell ⟨B, 3, none⟩ d) := set_low (sets_below hb h a b c) h d
/-- A variable, the sign, a term, as they are read. -/
def bindC (s : ByteArray) (l : List Sym) (k : Nat) : Except (Int × Nat) (ByteArray × Tn × Nat) := match wantP s k 2 with
  | .error e => .error e
  | .ok r => match wantP s r.to 7 with
    | .error e => .error e
    | .ok q => match rdC s l false q.to with
      | .error e => .error e
      | .ok (.nil, _) => .error (0, 0)
      | .ok (.node _ _ x m _, k2) => .ok (r.word.text, (x, m), k2)
/-- How bind ends. -/
def BindEnd (X : Nat → Prop) (B : Nat) (sg : Value) (s : ByteArray) (b : Nat) (tv : Value) (ks : List Kv) (w : World) (res : Except (Int × Nat) (ByteArray × Tn × Nat)) (e : Ending) (w' : World) : Prop := (match res with
    | .error p => e = faultP p.1 p.2
    | .ok (v, t, k') => ∃ (k : Kv) (tv' : Value), t = k.tn ∧ e = .returned (.agg #[.string v, .string k.x.1, .int .i64 k.x.2, .slice k.a (lenF k.l) k.c]) ∧ RdBox w' B sg s k' tv' ∧ LstP X b w' tv' (ks ++ [k]) ∧ (∀ q, q < w.heap.size → q ≠ B → some q ≠ tv.ownBlock → w'.heap[q]? = w.heap[q]?)) ∧ Below B w w'

set_option maxRecDepth 100000 in
set_option maxHeartbeats 4000000 in
theorem bind_rd {X : Nat → Prop} {w0 : World} {B : Nat} {S : Option Addr} {n cap : Nat} {l : List Sym} {s : ByteArray} (hB0 : w0.heap.size ≤ B) (hs : s.size ≤ 800) (hS : SigAt w0 S n l) (b : Nat) (hb : B < b) (k : Nat) (tv : Value) (ks : List Kv) (w : World) (hk : k ≤ s.size) (hlen : ks.length ≤ k) (hB : RdBox w B (.slice S n cap) s k tv) (hL : Below w0.heap.size w0 w) (hT : LstP X b w tv ks) (hX : ∀ q, X q → q < w.heap.size) (hbw : b ≤ w.heap.size) :
    Calls Try.prog 63 #[.pointer (some ⟨B, 0, none⟩)] w fun e w' => BindEnd X B (.slice S n cap) s b tv ks w (bindC s l k) e w' := by
  have B0 := alloc_below0 w (.cells #[.string ⟨#[]⟩, .string ⟨#[]⟩, .int .i64 0, .slice none 0 0] 50)
  have E0 : BBox (w.alloc (.cells #[.string ⟨#[]⟩, .string ⟨#[]⟩, .int .i64 0, .slice none 0 0] 50)) w.heap.size ⟨#[]⟩ (⟨#[]⟩, 0) (.slice none 0 0) := World.alloc_heap_new w _
  have hBw := hB.lt
  have hs0 : (w.alloc (.cells #[.string ⟨#[]⟩, .string ⟨#[]⟩, .int .i64 0, .slice none 0 0] 50)).heap.size = w.heap.size + 1 := World.size_alloc _ _
  have hsm : s.size ≤ maxLen := by unfold maxLen; omega
  have hwt := want_rd B (.slice S n cap) tv s k 2 _ (hB.below B0) hsm hk
  have hP : LstP (fun q => X q ∨ q = w.heap.size) b w tv ks := hT.more (fun q hq => hq.imp id (fun h => by omega))
  have HWT := hid hwt; have HE := hid E0; have HP := hid (hP.below B0)
  have HB0 := hid B0
  have HL := hid hL; have HS := hid hS; have HX := hid hX
  have hown : ∀ g, tv.ownBlock = some g → g < w.heap.size := fun g hg => hT.lst.lt hg
  have HO := hid hown
  obtain ⟨res, hres⟩ : ∃ res, bindC s l k = res := ⟨_, rfl⟩
  rw [hres]
  unfold bindC at hres
  have HRS := hid hres
  clear hwt B0 E0 hB hL hS hP hT hX hown hres
  go_enter Try.func63, Try.ntmps63
  go_wp2_with fail
  generalize w.alloc (.cells #[.string ⟨#[]⟩, .string ⟨#[]⟩, .int .i64 0, .slice none 0 0] 50) = V0 at HWT HE HP HB0 hs0 ⊢
  cases hw : wantP s k 2 with
  | error q =>
    have hwt := HWT.out
    have hres := HRS.out
    rw [hw] at hwt hres
    dsimp only at hwt hres
    unfold faultP at hwt
    refine hwt.mono ?_
    rintro e w2 ⟨rfl, hf2⟩
    go_wp2
    exact ⟨rfl, by rw [← hres]; exact ⟨rfl, (HB0.out.mono (by omega)).trans (hf2.below (fun _ hk => hk ▸ Nat.le_refl _) (by omega))⟩⟩
  | ok r =>
    have hk1 := want_ok hk hw
    have hwt := HWT.out
    have hres := HRS.out
    rw [hw] at hwt hres
    dsimp only at hwt hres
    obtain ⟨⟨wk, wt, wp⟩, rt, re⟩ := r
    dsimp only at hk1 hwt hres
    unfold Wd.val at hwt
    dsimp only at hwt
    refine hwt.mono ?_
    rintro e w2 ⟨⟨rfl, hrb2⟩, hf2⟩
    have hz2 := hf2.low.size
    have B2 := alloc_below0 w2 (.cells #[.int .i64 wk, .string wt, .int .i64 wp] 71)
    have T2 : WdBox (w2.alloc (.cells #[.int .i64 wk, .string wt, .int .i64 wp] 71)) w2.heap.size ⟨wk, wt, wp⟩ := World.alloc_heap_new w2 _
    have F2 : FrB B V0 (w2.alloc (.cells #[.int .i64 wk, .string wt, .int .i64 wp] 71)) := hf2.trans (Fr.of_below B2)
    have hs2 : (w2.alloc (.cells #[.int .i64 wk, .string wt, .int .i64 wp] 71)).heap.size = w2.heap.size + 1 := World.size_alloc _ _
    have hwt2 := want_rd B (.slice S n cap) tv s rt 7 _ (hrb2.below B2) hsm hk1.2
    have HT2 := hid T2; have HF2 := hid F2; have HWT2 := hid hwt2
    have HRS2 := hid hres
    clear hwt hres hrb2 hf2 B2 T2 F2 hwt2 HWT HRS
    go_wp2_with fail
    generalize w2.alloc (.cells #[.int .i64 wk, .string wt, .int .i64 wp] 71) = V2 at HT2 HF2 HWT2 hs2 ⊢
    cases hw2 : wantP s rt 7 with
    | error q =>
      have hwt := HWT2.out
      have hres := HRS2.out
      rw [hw2] at hwt hres
      dsimp only at hwt hres
      unfold faultP at hwt
      refine hwt.mono ?_
      rintro e w3 ⟨rfl, hf3⟩
      go_wp2
      exact ⟨rfl, by rw [← hres]; exact ⟨rfl, (HB0.out.mono (by omega)).trans ((HF2.out.trans hf3).below (fun _ hk => hk ▸ Nat.le_refl _) (by omega))⟩⟩
    | ok r2 =>
      have hk2 := want_ok hk1.2 hw2
      have hwt := HWT2.out
      have hres := HRS2.out
      rw [hw2] at hwt hres
      dsimp only at hwt hres
      refine hwt.mono ?_
      rintro e w3 ⟨⟨rfl, hrb3⟩, hf3⟩
      have F3 : FrB B V0 w3 := HF2.out.trans hf3
      have hz3 := hf3.low.size
      have hz0 := HF2.out.low.size
      have E3 : BBox w3 w.heap.size ⟨#[]⟩ (⟨#[]⟩, 0) (.slice none 0 0) := (F3.same _ (by omega) (by omega)).trans HE.out
      have T3 : WdBox w3 w2.heap.size ⟨wk, wt, wp⟩ := (hf3.same _ (by omega) (by omega)).trans HT2.out
      have P3 : LstP (fun q => X q ∨ q = w.heap.size) b w3.drew tv ks := HP.out.keep (fun q hq _ hbq => F3.same q hq (by omega))
      have hlow : Below B w w3 := (HB0.out.mono (by omega)).trans (F3.below (fun _ hk => hk ▸ Nat.le_refl _) (by omega))
      have hc := whole_p (cap := cap) hB0 hs HS.out b hb r2.to tv ks w3.drew hk2.2 (by omega) hrb3 (HL.out.trans (hlow.mono hB0)).drew P3 (fun q hq => hq.elim (fun h => by have := HX.out q h; show q < w3.heap.size; omega) (fun h => by show q < w3.heap.size; omega)) (by show _ ≤ w3.heap.size; omega)
      have hwo : some w.heap.size ≠ tv.ownBlock := fun e => by have := HO.out _ e.symm; omega
      have hto : some w2.heap.size ≠ tv.ownBlock := fun e => by have := HO.out _ e.symm; omega
      have hwz : w.heap.size < w3.heap.size := by omega
      have hwB : w.heap.size ≠ B := by omega
      have htz : w2.heap.size < w3.heap.size := by omega
      have htB : w2.heap.size ≠ B := by omega
      have HC := hid hc; have HE3 := hid E3; have HT3 := hid T3; have HLW := hid hlow; have HF3 := hid F3
      have HRS3 := hid hres
      have t1 := T3.k1
      clear hwt hres hc hrb3 hf3 E3 T3 P3 hlow F3 HE HT2 HF2 HWT2 HRS2 HP
      go_wp2_with fail
      cases hr : rdC s l false r2.to with
      | error q =>
        have hc := HC.out
        have hres := HRS3.out
        unfold WholeP at hc
        rw [hr] at hc hres
        dsimp only at hc hres
        unfold faultP at hc
        have HC3 := hid hc
        have HRS4 := hid hres
        clear hc hres HC
        go_region_dies
        all_goals (try go_wp2_with fail)
        all_goals (refine HC3.out.mono ?_; rintro e w4 ⟨rfl, hb4⟩; exact ⟨rfl, by rw [← HRS4.out]; exact ⟨rfl, HLW.out.drew.trans hb4⟩⟩)
      | ok qq =>
        obtain ⟨G, k3⟩ := qq
        have hc := HC.out
        have hres := HRS3.out
        unfold WholeP at hc
        rw [hr] at hc hres
        dsimp only at hc
        have HC3 := hid hc
        have HRS4 := hid hres
        clear hc hres HC
        go_region_law ((first
          | (go_simp; go_wp2_with (go_at_call 32; refine HC3.out.mono ?_; rintro e w4 ⟨⟨⟨y, u, ua, uc⟩, tv4, rfl, rfl, hrb4, hls4, hfr4⟩, hb4⟩; have E4 : BBox w4 w.heap.size ⟨#[]⟩ (⟨#[]⟩, 0) (.slice none 0 0) := (hfr4 w.heap.size hwz hwB hwo).trans HE3.out; have T4 : WdBox w4 w2.heap.size ⟨wk, wt, wp⟩ := (hfr4 w2.heap.size htz htB hto).trans HT3.out; have t4 := T4.k1; have c0 := E4.c 0; have c1 := E4.c 1; have c2 := E4.c 2; have c3 := E4.c 3; have f0 := E4.f 0; have f1 := E4.f 1; have f2 := E4.f 2; have f3 := E4.f 3; have HE4 := hid E4; have HR4 := hid hrb4; have HL4 := hid hls4; have HB4 := hid hb4; have HG4 := hid hfr4; clear E4 T4 hrb4 hls4 hfr4 hb4))
          | fail))
        all_goals
          go_wp2
          refine bodyPost_ret (results_cell_row rfl _ _ w.heap.size 50 #[.string wt, .string y.1, .int .i64 y.2, .slice ua (lenF u) uc] (0, 0) _ rfl (bbox_all HE4.out wt y (.slice ua (lenF u) uc)) Try.underlying50 rfl (by kernel_rfl)) rfl ?_
          rw [← HRS4.out]
          refine ⟨⟨⟨y, u, ua, uc⟩, tv4, rfl, rfl, (sets_far4 (by omega) _ _ _ _).trans HR4.out, (HL4.out.keep (fun q _ hq _ => sets_far4 (fun e => hq (.inr e)) _ _ _ _)).less (fun _ h => .inl h), fun q hq hqB hqo => ?_⟩, sets_low4 (HLW.out.drew.trans HB4.out) (by omega) _ _ _ _⟩
          exact (sets_far4 (by omega) _ _ _ _).trans ((HG4.out q (by show q < w3.heap.size; omega) hqB hqo).trans ((HF3.out.same q (by omega) hqB).trans (HB0.out.block q hq)))
end Go.Proofs.Ytkcbhbkldcebiaa

namespace Go.Proofs.Ytkcbhbkldcebiaa
open Go.RowKit Go.Deep

/-- A variable and the term bound to it, with where the term's list lies. -/
abbrev Bk := ByteArray × Kv
def bkCells (x : Bk) : List Value := [.string x.1, .string x.2.x.1, .int .i64 x.2.x.2, .slice x.2.a (lenF x.2.l) x.2.c]
def bkAll (l : List Bk) : List Value := l.flatMap bkCells
def bkBn (x : Bk) : Bn := (x.1, x.2.tn)
theorem bkAll_len : ∀ l : List Bk, (bkAll l).length = l.length * 4
  | [] => rfl
  | x :: r => by
    have := bkAll_len r
    simp only [bkAll, List.flatMap_cons, List.length_append, List.length_cons] at this ⊢
    simp only [bkCells, List.length_cons, List.length_nil]
    omega
theorem bkAll_snoc (l : List Bk) (x : Bk) : bkAll (l ++ [x]) = bkAll l ++ bkCells x := by simp [bkAll]
theorem bk_one (x : Bk) : ∀ u ∈ bkCells x, u.oneCell' = true := by
  intro u hu
  simp [bkCells] at hu
  rcases hu with rfl | rfl | rfl | rfl <;> rfl
set_option maxRecDepth 100000 in
theorem Try.info50 : (Try.prog.info? 50).map (fun i => (i.zero, i.size, i.bytes)) = some (some (.agg #[.string ⟨#[]⟩, .string ⟨#[]⟩, .int .i64 0, .slice none 0 0]), 4, 64) := by kernel_rfl
set_option maxRecDepth 100000 in
/-- append of one bind. -/
theorem wpList_append_bk {ops : Array Oper} {rest : List Oper} {o : Oper} {a : Act} {Q : Exit → Act → World → Prop} {W : World} (hgd : o.guard = none) (s x : Operand)
    (ho : o.op = .call { callee := .builtin .append, args := #[s, x], argTypes := #[38, 38] }) (base : Nat) (v : Value) (bs : List Bk) (hs : a.eval s = v) (hown : W.ownsRow base 50 4 v bs.length (bkAll bs))
    (nb : Nat) (y : Bk) (hx : a.eval x = .slice (some ⟨nb, 0, none⟩) 1 1) (hm : ∀ j u, (bkCells y)[j]? = some u → W.cell? ((⟨nb, 0, none⟩ : Addr).add j) = some u) (hbig : bs.length ≤ 800) (hbase : base ≤ W.heap.size)
    (h : ∀ v' w', w'.ownsRow base 50 4 v' (bs ++ [y]).length (bkAll (bs ++ [y])) → W.grownBy w' v.ownBlock → (v'.ownBlock = v.ownBlock ∨ v'.ownBlock = some W.heap.size) → wpList Try.prog ops Q rest (a.put o.dst v') w') : wpList Try.prog ops Q (o :: rest) a W := by
  obtain ⟨i0, hi, hz0, hz1, hz2⟩ := info_parts Try.info50
  have hmax : maxLen = 9223372036854775807 := rfl
  refine wpList_append_lies _ hgd s x 38 ho base 50 i0 _ 4 64 Try.underlying38 hi hz0 hz1 hz2 rfl (by decide) v bs.length (bkAll bs) hs hown ⟨nb, 0, none⟩ 1 1 (bkCells y) hx rfl hm (bk_one y) (by decide) (by omega) (by omega) hbase _ rfl ?_
  intro g cap w' h1 h2 h3 _
  refine h _ w' ?_ h2 ?_
  · rw [bkAll_snoc, List.length_append]
    exact h1
  · rcases h3 with h3 | h3
    · exact .inl h3.symm
    · exact .inr (by rw [h3]; rfl)
theorem row_bk {W : World} {base : Nat} (y : Bk) (hb : base ≤ W.heap.size) : (W.alloc (.cells #[.string y.1, .string y.2.x.1, .int .i64 y.2.x.2, .slice y.2.a (lenF y.2.l) y.2.c] 50)).ownsRow base 50 4 (.slice (some ⟨W.heap.size, 0, none⟩) 1 1) 1 (bkAll [y]) :=
  ⟨rfl, .inr ⟨W.heap.size, 1, _, rfl, hb, World.alloc_heap_new W _, Nat.le_refl _, by decide, rfl, rfl⟩⟩
/-- The binds behind the first one, as they are read. -/
def bsF (s : ByteArray) (l : List Sym) : Nat → Nat → Except (Int × Nat) (List Bn × Nat)
  | 0, _ => .error (0, 0)
  | f + 1, k => match passP s k 5 with
    | .error e => .error e
    | .ok (false, k1) => .ok ([], k1)
    | .ok (true, k1) => match bindC s l k1 with
      | .error e => .error e
      | .ok (v, t, k2) => match bsF s l f k2 with
        | .error e => .error e
        | .ok (L, k3) => .ok ((v, t) :: L, k3)
/-- Binds, as they are read. -/
def bindsC (s : ByteArray) (l : List Sym) : Except (Int × Nat) (List Bn × Nat) := match lookP s 0 with
  | .error e => .error e
  | .ok r => if r.word.kind = 0 then .ok ([], 0) else match bindC s l 0 with
    | .error e => .error e
    | .ok (v, t, k) => match bsF s l (s.size + 1) k with
      | .error e => .error e
      | .ok (L, k') => .ok ((v, t) :: L, k')
theorem bindC_to {s : ByteArray} {l : List Sym} {k : Nat} {v : ByteArray} {t : Tn} {k' : Nat} (hk : k ≤ s.size) (h : bindC s l k = .ok (v, t, k')) : k < k' ∧ k' ≤ s.size := by
  unfold bindC at h
  cases h1 : wantP s k 2 with
  | error e => rw [h1] at h; cases h
  | ok r =>
    have e1 := want_ok hk h1
    rw [h1] at h
    dsimp only at h
    cases h2 : wantP s r.to 7 with
    | error e => rw [h2] at h; cases h
    | ok q =>
      have e2 := want_ok e1.2 h2
      rw [h2] at h
      dsimp only at h
      cases h3 : rdC s l false q.to with
      | error e => rw [h3] at h; cases h
      | ok p =>
        obtain ⟨F, k3⟩ := p
        have e3 := rdC_to e2.2 h3
        rw [h3] at h
        cases F with
        | nil => cases h
        | node _ _ x m _ => cases h; omega
/-- How binds ends. -/
def BindsEnd (B : Nat) (sg : Value) (s : ByteArray) (w : World) (res : Except (Int × Nat) (List Bn × Nat)) (e : Ending) (w' : World) : Prop := (match res with
    | .error p => e = faultP p.1 p.2
    | .ok (L, k') => ∃ (bs : List Bk) (v tv : Value), e = .returned v ∧ bs.map bkBn = L ∧ w'.ownsRow w.heap.size 50 4 v bs.length (bkAll bs) ∧ RdBox w' B sg s k' tv ∧ LstP (fun q => v.ownBlock = some q) w.heap.size w' tv (bs.map (·.2)) ∧ k' ≤ s.size ∧ bs.length ≤ s.size) ∧ Below B w w'
theorem owns_ne {W : World} {base : Nat} {v : Value} {n : Nat} {xs : List Value} {g : Nat} (h : W.ownsRow base 50 4 v n xs) (hg : v.ownBlock = some g) : base ≤ g ∧ g < W.heap.size := by
  rcases h.2 with ⟨rfl, _⟩ | ⟨g', cap, cur, rfl, hb, hc, _⟩
  · cases hg
  · cases hg
    exact ⟨hb, (Array.getElem?_eq_some_iff.1 hc).1⟩

set_option maxRecDepth 100000 in
set_option maxHeartbeats 4000000 in
theorem binds_rd {w0 : World} {B : Nat} {S : Option Addr} {n cap : Nat} {l : List Sym} {s : ByteArray} (hB0 : w0.heap.size ≤ B) (hs : s.size ≤ 800) (hS : SigAt w0 S n l) (w : World) (hB : RdBox w B (.slice S n cap) s 0 (.slice none 0 0)) (hL : Below w0.heap.size w0 w) :
    Calls Try.prog 41 #[.pointer (some ⟨B, 0, none⟩)] w fun e w' => BindsEnd B (.slice S n cap) s w (bindsC s l) e w' := by
  have hsm : s.size ≤ maxLen := by unfold maxLen; omega
  have hBlt := hB.lt
  have hc := look_any B (.slice S n cap) (.slice none 0 0) s 0 w hB hsm (Nat.zero_le _)
  have HC := hid hc; have HB := hid hB; have HL := hid hL; have HS := hid hS
  obtain ⟨res, hres⟩ : ∃ res, bindsC s l = res := ⟨_, rfl⟩
  rw [hres]
  unfold bindsC lookP at hres
  have HRS := hid hres
  clear hc hB hL hS hres
  go_enter Try.func41, Try.ntmps41
  go_wp2_with fail
  obtain ⟨⟨⟨wk, wt, wp⟩, rt, re⟩, hnx⟩ : ∃ r, nx s 0 = r := ⟨_, rfl⟩
  rw [hnx] at HC HRS
  by_cases he : re = 0
  · have hc := HC.out
    have hres := HRS.out
    simp only [if_pos he] at hc hres
    unfold Wd.val at hc
    dsimp only at hc hres
    refine hc.mono ?_
    rintro e w1 ⟨rfl, hb1⟩
    have B1 := alloc_below0 w1 (.cells #[.int .i64 wk, .string wt, .int .i64 wp] 71)
    have T1 : WdBox (w1.alloc (.cells #[.int .i64 wk, .string wt, .int .i64 wp] 71)) w1.heap.size ⟨wk, wt, wp⟩ := World.alloc_heap_new w1 _
    have R1 := hid ((HB.out.below hb1).below B1)
    have L1 : Hid (Below w.heap.size w (w1.alloc (.cells #[.int .i64 wk, .string wt, .int .i64 wp] 71))) := hid (hb1.trans (B1.mono hb1.size))
    have k0 := T1.k0
    have HRS1 := hid hres
    clear hc hres HC HRS hb1 B1 T1 he hnx
    by_cases hk0 : wk = 0
    · have hres := HRS1.out
      rw [if_pos hk0] at hres
      have HRS2 := hid hres
      subst hk0
      clear hres HRS1
      go_wp2
      go_ret
      rw [← HRS2.out]
      exact ⟨⟨[], _, .slice none 0 0, rfl, rfl, World.ownsRow_nil _ _ _ _, R1.out, LstP.nil _ _ _, Nat.zero_le _, Nat.zero_le _⟩, L1.out.mono (by omega)⟩
    · have hres := HRS1.out
      rw [if_neg hk0] at hres
      have HRS2 := hid hres
      have hkb : (wk == 0) = false := by simpa using hk0
      clear hres HRS1
      go_wp2_with fail
      generalize w1.alloc (.cells #[.int .i64 wk, .string wt, .int .i64 wp] 71) = V1 at R1 L1 k0 ⊢
      have hz1 := L1.out.size
      have hc := bind_rd (X := fun _ => False) (cap := cap) hB0 hs HS.out w.heap.size hBlt 0 (.slice none 0 0) [] V1 (Nat.zero_le _) (Nat.le_refl _) R1.out (HL.out.trans (L1.out.mono (by omega))) (LstP.nil _ _ _) (fun _ h => h.elim) hz1
      unfold BindEnd at hc
      cases hb : bindC s l 0 with
      | error q =>
        have hres := HRS2.out
        rw [hb] at hc hres
        dsimp only at hc hres
        unfold faultP at hc
        refine hc.mono ?_
        rintro e w2 ⟨rfl, hb2⟩
        go_wp2
        exact ⟨rfl, by rw [← hres]; exact ⟨rfl, (L1.out.mono (by omega)).trans hb2⟩⟩
      | ok qq =>
        obtain ⟨v1, t1, k1⟩ := qq
        have hk1 := bindC_to (Nat.zero_le _) hb
        have hres := HRS2.out
        rw [hb] at hc hres
        dsimp only at hc hres
        refine hc.mono ?_
        rintro e w2 ⟨⟨y, tv2, rfl, rfl, hrb2, hls2, _⟩, hb2⟩
        have hz2 := hb2.size
        have B2 := alloc_below0 w2 (.cells #[.string v1, .string y.x.1, .int .i64 y.x.2, .slice y.a (lenF y.l) y.c] 50)
        have R2 := hid (hrb2.below B2)
        have O2 : Hid ((w2.alloc (.cells #[.string v1, .string y.x.1, .int .i64 y.x.2, .slice y.a (lenF y.l) y.c] 50)).ownsRow w.heap.size 50 4 (.slice (some ⟨w2.heap.size, 0, none⟩) 1 1) 1 (bkAll [(v1, y)])) := hid (row_bk (v1, y) (by omega))
        have P2 : Hid (LstP (fun q => (Value.slice (some ⟨w2.heap.size, 0, none⟩) 1 1).ownBlock = some q) w.heap.size (w2.alloc (.cells #[.string v1, .string y.x.1, .int .i64 y.x.2, .slice y.a (lenF y.l) y.c] 50)) tv2 [y]) := hid ((hls2.more (fun q hq => .inr (by have : w2.heap.size = q := Option.some.inj hq; omega))).below B2)
        have L2 : Hid (Below B w (w2.alloc (.cells #[.string v1, .string y.x.1, .int .i64 y.x.2, .slice y.a (lenF y.l) y.c] 50))) := hid (((L1.out.mono (by omega)).trans hb2).trans (B2.mono (by omega)))
        have hrel0 : Hid (match bsF s l (s.size + 1) k1 with | .error e => res = .error e | .ok (L, k3) => res = .ok ([(v1, y)].map bkBn ++ L, k3)) := by
          show match bsF s l (s.size + 1) k1 with | .error e => res = .error e | .ok (L, k3) => res = .ok ([(v1, y)].map bkBn ++ L, k3)
          rw [← hres]
          cases bsF s l (s.size + 1) k1 with
          | error e => rfl
          | ok q => rfl
        have hz3 : (w2.alloc (.cells #[.string v1, .string y.x.1, .int .i64 y.x.2, .slice y.a (lenF y.l) y.c] 50)).heap.size = w2.heap.size + 1 := World.size_alloc _ _
        clear hc hb hres HRS2 hrb2 hls2 hb2 B2 R1 L1 k0
        go_wp2_with fail
        generalize w2.alloc (.cells #[.string v1, .string y.x.1, .int .i64 y.x.2, .slice y.a (lenF y.l) y.c] 50) = V2 at R2 O2 P2 L2 hz3 ⊢
        go_loopw [5] (fun ov wr => ∃ (f kc : Nat) (bs : List Bk) (v tv : Value), v = ov ∧ s.size - kc < f ∧ kc ≤ s.size ∧ bs.length ≤ kc ∧ RdBox wr B (.slice S n cap) s kc tv ∧ wr.ownsRow w.heap.size 50 4 v bs.length (bkAll bs) ∧ LstP (fun q => v.ownBlock = some q) w.heap.size wr tv (bs.map (·.2)) ∧ Below B w wr ∧ w.heap.size ≤ wr.heap.size ∧ (match bsF s l f kc with | .error e => res = .error e | .ok (L, k3) => res = .ok (bs.map bkBn ++ L, k3))) (fun _ wr => match wr.cell? ⟨B, 2, none⟩ with | some (.int _ q) => s.size - q.toNat | _ => 0)
        case atStart => exact ⟨s.size + 1, k1, [(v1, y)], _, tv2, rfl, by omega, hk1.2, by simp; omega, R2.out, O2.out, P2.out, L2.out, by omega, hrel0.out⟩
        case round =>
          obtain ⟨f, kc, bs, v, tv, rfl, hf, hkc, hlen, hrb, hrow, hlst, hlow, hsz, hrel1⟩ := hrel
          have R3 := hid hrb; have O3 := hid hrow; have P3 := hid hlst; have L3 := hid hlow
          have hc2 := hrb.c2
          obtain ⟨f, rfl⟩ : ∃ g, f = g + 1 := ⟨f - 1, by omega⟩
          unfold bsF at hrel1
          have HREL := hid hrel1
          have hc := pass_rd B (.slice S n cap) tv s kc 5 wr hrb hsm hkc
          clear hrb hrow hlst hlow hrel1 R2 O2 P2 L2 hrel0
          go_wp2_with fail
          cases hp5 : passP s kc 5 with
          | error p =>
            have hres := HREL.out
            rw [hp5] at hc hres
            dsimp only at hc hres
            unfold faultP at hc
            refine hc.mono ?_
            rintro e w4 ⟨rfl, hf4⟩
            go_wp2
            exact ⟨rfl, by rw [hres]; exact ⟨rfl, L3.out.trans (hf4.below (fun _ hk => hk ▸ Nat.le_refl _) (by omega))⟩⟩
          | ok q =>
            obtain ⟨bb, k4⟩ := q
            have hres := HREL.out
            rw [hp5] at hc hres
            dsimp only at hc
            refine hc.mono ?_
            rintro e w4 ⟨⟨rfl, hrb4⟩, hf4⟩
            have hz4 := hf4.low.size
            have R4 := hid hrb4
            have O4 : Hid (w4.ownsRow w.heap.size 50 4 v bs.length (bkAll bs)) := hid (owns_block O3.out (fun g hg => hf4.same g (owns_ne O3.out hg).2 (by have := (owns_ne O3.out hg).1; omega)))
            have P4 : Hid (LstP (fun q => v.ownBlock = some q) w.heap.size w4 tv (bs.map (·.2))) := hid (P3.out.keep (fun q hq _ hbq => hf4.same q hq (by omega)))
            have L4 := hid (L3.out.trans (hf4.below (fun _ hk => hk ▸ Nat.le_refl _) (by omega)))
            have HRS := hid hres
            clear hc hres HREL hrb4 hf4 R3 O3 P3 L3
            cases bb with
            | false =>
              obtain rfl := pass_false hp5
              have hres := HRS.out
              dsimp only at hres
              rw [List.append_nil] at hres
              go_wp2
              go_ret
              rw [hres]
              exact ⟨⟨bs, _, tv, rfl, rfl, O4.out, R4.out, P4.out, hkc, by omega⟩, L4.out⟩
            | true =>
              have hk4 := pass_true hkc (by decide) hp5
              have hres := HRS.out
              dsimp only at hres
              have hc := bind_rd (X := fun q => v.ownBlock = some q) (cap := cap) hB0 hs HS.out w.heap.size hBlt k4 tv (bs.map (·.2)) w4 hk4.2 (by rw [List.length_map]; omega) R4.out (HL.out.trans (L4.out.mono hB0)) P4.out (fun q hq => (owns_ne O4.out hq).2) (by omega)
              unfold BindEnd at hc
              go_wp2_with fail
              cases hb : bindC s l k4 with
              | error q =>
                rw [hb] at hc hres
                dsimp only at hc hres
                unfold faultP at hc
                refine hc.mono ?_
                rintro e w5 ⟨rfl, hb5⟩
                go_wp2
                exact ⟨rfl, by rw [hres]; exact ⟨rfl, L4.out.trans hb5⟩⟩
              | ok qq =>
                obtain ⟨v5, t5, k5⟩ := qq
                have hk5 := bindC_to hk4.2 hb
                rw [hb] at hc hres
                dsimp only at hc hres
                refine hc.mono ?_
                rintro e w5 ⟨⟨y5, tv5, rfl, rfl, hrb5, hls5, hfr5⟩, hb5⟩
                have hz5 := hb5.size
                have O5 : Hid (w5.ownsRow w.heap.size 50 4 v bs.length (bkAll bs)) := hid (owns_block O4.out (fun g hg => hfr5 g (owns_ne O4.out hg).2 (by have := (owns_ne O4.out hg).1; omega) (fun e => P4.out.far g e.symm hg)))
                have R5 := hid hrb5; have P5 := hid hls5
                have L5 := hid (L4.out.trans hb5)
                have HR5 := hid hres
                clear hc hb hres HRS hrb5 hls5 hfr5 hb5 R4 O4 P4 L4
                go_wp2_with (first
                  | (at_builtin; refine wpList_append_bk rfl _ _ rfl w.heap.size v bs rfl (owns_below O5.out (alloc_below0 w5 _)) w5.heap.size (v5, y5) rfl (World.news_of_block (heap_alloc_new w5 _)) (by omega) (by rw [World.size_alloc]; omega) ?_; intro v6 w6 hown6 hgrow6 hat6; have O6 := hid hown6; have G6 := hid hgrow6; have A6 := hid hat6; clear hown6 hat6 hgrow6))
                have B5 := alloc_below0 w5 (.cells #[.string v5, .string y5.x.1, .int .i64 y5.x.2, .slice y5.a (lenF y5.l) y5.c] 50)
                have hv5 : (w5.alloc (.cells #[.string v5, .string y5.x.1, .int .i64 y5.x.2, .slice y5.a (lenF y5.l) y5.c] 50)).heap.size = w5.heap.size + 1 := World.size_alloc _ _
                have hR6 : RdBox w6 B (.slice S n cap) s k5 tv5 := (G6.out.block B (by omega) (fun e => by have := (owns_ne O5.out e.symm).1; omega)).trans (R5.out.below B5)
                go_roundw
                case rel =>
                  have hP6 : LstP (fun q => v6.ownBlock = some q) w.heap.size w6 tv5 ((bs ++ [(v5, y5)]).map (·.2)) := by
                    have h1 : LstP (fun q => v.ownBlock = some q ∨ v6.ownBlock = some q) w.heap.size (w5.alloc (.cells #[.string v5, .string y5.x.1, .int .i64 y5.x.2, .slice y5.a (lenF y5.l) y5.c] 50)) tv5 (bs.map (·.2) ++ [y5]) := (P5.out.below B5).more (fun q hq => hq.elim .inl (fun h => A6.out.elim (fun e => .inl (e.symm.trans h)) (fun e => .inr (by have := Option.some.inj (e.symm.trans h); omega))))
                    have h2 := h1.keep (W' := w6) (fun q hq hx _ => G6.out.block q hq (fun e => hx (.inl e.symm)))
                    rw [List.map_append]
                    exact h2.less (fun _ h => .inr h)
                  have hL6 : Below B w w6 := ((L5.out.trans (B5.mono (by omega)))).grown G6.out (by omega) (fun q hq => by have := (owns_ne O5.out hq).1; omega)
                  refine ⟨f, k5, bs ++ [(v5, y5)], v6, tv5, rfl, by omega, hk5.2, by simp; omega, hR6, O6.out, hP6, hL6, by have := G6.out.size; omega, ?_⟩
                  have h := HR5.out
                  cases ht5 : bsF s l f k5 with
                  | error e => rw [ht5] at h; exact h
                  | ok q =>
                    obtain ⟨L, k6⟩ := q
                    rw [ht5] at h
                    dsimp only at h ⊢
                    rw [h, List.map_append, List.append_assoc]
                    rfl
                case measure =>
                  rw [hR6.c2, hc2]
                  simp
                  omega
  · have hc := HC.out
    have hres := HRS.out
    simp only [if_neg he] at hc hres
    unfold faultP at hc
    refine hc.mono ?_
    rintro e w1 ⟨rfl, hb1⟩
    go_wp2
    exact ⟨rfl, by rw [← hres]; exact ⟨rfl, hb1.mono (by omega)⟩⟩
end Go.Proofs.Ytkcbhbkldcebiaa

namespace Go.Proofs.Ytkcbhbkldcebiaa
open Go.RowKit Go.Deep

set_option maxRecDepth 100000 in
set_option maxHeartbeats 1000000 in
theorem catchB_fault (p q : Nat) (e : Int) (at_ : Nat) (x y : Int) (older : List PanicEntry) (w : World) (hpq : p ≠ q) (hp : w.cell? ⟨p, 0, none⟩ = some (.int .i64 x)) (hq : w.cell? ⟨q, 0, none⟩ = some (.int .i64 y)) (fp : w.frozen? ⟨p, 0, none⟩ = false) (fq : w.frozen? ⟨q, 0, none⟩ = false) :
    CallsD Try.prog 61 #[.pointer (some ⟨p, 0, none⟩), .pointer (some ⟨q, 0, none⟩)] (.panicking ({ v := .iface 96 (.agg #[.int .i64 e, .int .i64 at_]), recovered := false } :: older)) w fun r u w' =>
      r = .returned (.tuple #[]) ∧ u = .panicking ({ v := .iface 96 (.agg #[.int .i64 e, .int .i64 at_]), recovered := true } :: older) ∧ w'.cell? ⟨p, 0, none⟩ = some (.int .i64 e) ∧ w'.cell? ⟨q, 0, none⟩ = some (.int .i64 at_) ∧ Fr (fun k => k = p ∨ k = q) w w' := by
  refine callsD_of_wpS Try.func61 rfl fun c₀ cs hu => ?_
  apply wpS_seq
  apply wpS_region
  simp [wpOpsS, go_sem, recoverD, hu, Try.ntmps61, Exit.thenS]
  refine wpS_of_wp ?_
  change Code.wp _ _ _ { tmps := #[.pointer (some ⟨p, 0, none⟩), .pointer (some ⟨q, 0, none⟩), .iface 96 (.agg #[.int .i64 e, .int .i64 at_]), undef, .iface 96 (.agg #[.int .i64 e, .int .i64 at_]), undef, undef, undef, undef, undef, undef, undef, undef], defers := [] } _
  have hta : ∀ (v : Value) (w : World), (Instr.typeAssert (.iface 96 v) 20 96 false).run Try.prog w = .ok v w := fun v w => by kernel_rfl
  have B0 := alloc_below0 w (.cells #[.int .i64 e, .int .i64 at_] 96)
  have C0 : (w.alloc (.cells #[.int .i64 e, .int .i64 at_] 96)).heap[w.heap.size]? = some (.cells #[.int .i64 e, .int .i64 at_] 96 (0, 0)) := World.alloc_heap_new w _
  have k0 : (w.alloc (.cells #[.int .i64 e, .int .i64 at_] 96)).cell? ⟨w.heap.size, 0, none⟩ = some (.int .i64 e) := cell_box C0 rfl
  have k1 : (w.alloc (.cells #[.int .i64 e, .int .i64 at_] 96)).cell? ⟨w.heap.size, 1, none⟩ = some (.int .i64 at_) := cell_box C0 rfl
  have hp' := below_cell B0 _ _ hp; have hq' := below_cell B0 _ _ hq
  have hpl : p < w.heap.size := World.block_lt_of_cell? w _ hp
  have hql : q < w.heap.size := World.block_lt_of_cell? w _ hq
  have fp' : (w.alloc (.cells #[.int .i64 e, .int .i64 at_] 96)).frozen? ⟨p, 0, none⟩ = false := (World.frozen?_of_block (B0.block p hpl)).trans fp
  have fq' : (w.alloc (.cells #[.int .i64 e, .int .i64 at_] 96)).frozen? ⟨q, 0, none⟩ = false := (World.frozen?_of_block (B0.block q hql)).trans fq
  have hqp : ¬ q = p := fun h => hpq h.symm
  have n1 : ¬ w.heap.size = p := by omega
  have n2 : ¬ w.heap.size = q := by omega
  have n3 : ¬ p = w.heap.size := by omega
  have n4 : ¬ q = w.heap.size := by omega
  have FB := hid (Fr.of_below (A := fun k => k = p ∨ k = q) B0)
  clear B0 C0
  go_wp2
  generalize w.alloc (.cells #[.int .i64 e, .int .i64 at_] 96) = V0 at FB k0 k1 hp' hq' fp' fq' ⊢
  go_region
  all_goals
    have E1 : ((V0.setCell ⟨p, 0, none⟩ (.int .i64 e)).setCell ⟨q, 0, none⟩ (.int .i64 at_)).cell? ⟨p, 0, none⟩ = some (.int .i64 e) := (World.cell?_of_block (a := ⟨p, 0, none⟩) (set_far hpq _)).trans (World.cell?_setCell_same _ _ _ hp')
    have E2 : ((V0.setCell ⟨p, 0, none⟩ (.int .i64 e)).setCell ⟨q, 0, none⟩ (.int .i64 at_)).cell? ⟨q, 0, none⟩ = some (.int .i64 at_) := World.cell?_setCell_same _ _ _ ((World.cell?_of_block (a := ⟨q, 0, none⟩) (set_far hqp _)).trans hq')
    have E3 : Fr (fun k => k = p ∨ k = q) w (((V0.setCell ⟨p, 0, none⟩ (.int .i64 e)).setCell ⟨q, 0, none⟩ (.int .i64 at_)).drew) := FB.out.trans ⟨(((Below.refl _ V0).setCell (p := ⟨p, 0, none⟩) (Nat.zero_le _) _).setCell (p := ⟨q, 0, none⟩) (Nat.zero_le _) _).drew, fun k hk hn => (set_far (fun h => hn (.inr h)) _).trans (set_far (fun h => hn (.inl h)) _)⟩
    exact ⟨rfl, _, rfl, _, results_none rfl _ _ _, rfl, rfl, E1, E2, E3⟩

set_option maxRecDepth 100000 in
theorem catchB_none (p q : Nat) (w : World) :
    CallsD Try.prog 61 #[.pointer (some ⟨p, 0, none⟩), .pointer (some ⟨q, 0, none⟩)] .returning w fun r u w' => r = .returned (.tuple #[]) ∧ u = .returning ∧ w' = w := by
  refine callsD_of_wpS Try.func61 rfl fun c₀ cs hu => ?_
  apply wpS_seq
  apply wpS_region
  simp [wpOpsS, go_sem, recoverD, hu, Try.ntmps61, Exit.thenS]
  refine wpS_of_wp ?_
  change Code.wp _ _ _ { tmps := #[.pointer (some ⟨p, 0, none⟩), .pointer (some ⟨q, 0, none⟩), .nilIface, undef, .nilIface, undef, undef, undef, undef, undef, undef, undef, undef], defers := [] } _
  go_wp2
  cases c₀
  simp_all [bodyPostS, results, Try.results61]


theorem results_t1c2 {fn : Func} {t p q : Tmp} {tp tq : TypeId} {P : Program} {tmps : Array Value} {w : World} {a b : Addr} {x y : Value} (h : fn.results = #[.tmp t, .cell p tp, .cell q tq]) (hp : tmps.getD p undef = .pointer (some a)) (hq : tmps.getD q undef = .pointer (some b))
    (la : (loadVar tp a).run P w = .ok x w) (lb : (loadVar tq b).run P w = .ok y w) : (results fn tmps).run P w = .ok (.tuple #[tmps.getD t undef, x, y]) w := by
  have hp' : tmps[p]?.getD undef = .pointer (some a) := by simpa using hp
  have hq' : tmps[q]?.getD undef = .pointer (some b) := by simpa using hq
  simp [results, h, hp', hq', asAddr, la, lb]
/-- The door of read, where a fault comes to it. -/
theorem doorB_fault {fn : Func} {F : FuncId} {R : Ending → World → Prop} {tmps : Array Value} {e : Int} {at_ : Nat} {p q : Nat} {W : World} {zv : Value}
    (hres : fn.results = #[.tmp 6, .cell 7 29, .cell 8 3]) (h6 : tmps.getD 6 undef = zv) (h7 : tmps.getD 7 undef = .pointer (some ⟨p, 0, none⟩)) (h8 : tmps.getD 8 undef = .pointer (some ⟨q, 0, none⟩))
    (hinv : (invoke (.fn (.func F) #[.pointer (some ⟨p, 0, none⟩), .pointer (some ⟨q, 0, none⟩)]) #[]).run Try.prog W = .ok (.enter F #[.pointer (some ⟨p, 0, none⟩), .pointer (some ⟨q, 0, none⟩)]) W)
    (hC : CallsD Try.prog F #[.pointer (some ⟨p, 0, none⟩), .pointer (some ⟨q, 0, none⟩)] (.panicking [ftE e at_ false]) W fun x u w' => x = .returned (.tuple #[]) ∧ u = .panicking [ftE e at_ true] ∧ w'.cell? ⟨p, 0, none⟩ = some (.int .i64 e) ∧ w'.cell? ⟨q, 0, none⟩ = some (.int .i64 at_) ∧ Fr (fun k => k = p ∨ k = q) W w')
    (hR : ∀ W', Fr (fun k => k = p ∨ k = q) W W' → R (.returned (.tuple #[zv, .int .i64 e, .int .i64 at_])) W') :
    bodyPostD Try.prog fn R (.panic [ftE e at_ false]) { tmps := tmps, defers := [{ target := .fn (.func F) #[.pointer (some ⟨p, 0, none⟩), .pointer (some ⟨q, 0, none⟩)], args := #[] }] } W := by
  refine leaves_cons (f := F) (args := #[.pointer (some ⟨p, 0, none⟩), .pointer (some ⟨q, 0, none⟩)]) (by simp) hinv ?_
  refine hC.mono ?_
  rintro x u w' ⟨rfl, rfl, hp, hq, hf⟩
  have h := results_t1c2 (P := Try.prog) (w := w') hres h7 h8 (load_err hp) (load_int hq)
  rw [h6] at h
  exact ⟨_, h, hR w' hf⟩
/-- The door of read, where all went well. -/
theorem doorB_done {fn : Func} {F : FuncId} {R : Ending → World → Prop} {tmps : Array Value} {x y : Int} {p q : Nat} {W : World} {zv : Value}
    (hres : fn.results = #[.tmp 6, .cell 7 29, .cell 8 3]) (h6 : tmps.getD 6 undef = zv) (h7 : tmps.getD 7 undef = .pointer (some ⟨p, 0, none⟩)) (h8 : tmps.getD 8 undef = .pointer (some ⟨q, 0, none⟩))
    (hinv : (invoke (.fn (.func F) #[.pointer (some ⟨p, 0, none⟩), .pointer (some ⟨q, 0, none⟩)]) #[]).run Try.prog W = .ok (.enter F #[.pointer (some ⟨p, 0, none⟩), .pointer (some ⟨q, 0, none⟩)]) W)
    (hC : CallsD Try.prog F #[.pointer (some ⟨p, 0, none⟩), .pointer (some ⟨q, 0, none⟩)] .returning W fun x u w' => x = .returned (.tuple #[]) ∧ u = .returning ∧ w' = W)
    (hp : W.cell? ⟨p, 0, none⟩ = some (.int .i64 x)) (hq : W.cell? ⟨q, 0, none⟩ = some (.int .i64 y))
    (hR : R (.returned (.tuple #[zv, .int .i64 x, .int .i64 y])) W) :
    bodyPostD Try.prog fn R .ret { tmps := tmps, defers := [{ target := .fn (.func F) #[.pointer (some ⟨p, 0, none⟩), .pointer (some ⟨q, 0, none⟩)], args := #[] }] } W := by
  refine leaves_cons (f := F) (args := #[.pointer (some ⟨p, 0, none⟩), .pointer (some ⟨q, 0, none⟩)]) (by simp) hinv ?_
  refine hC.mono ?_
  rintro x' u w' ⟨rfl, rfl, rfl⟩
  have h := results_t1c2 (P := Try.prog) (w := w') hres h7 h8 (load_err hp) (load_int hq)
  rw [h6] at h
  exact ⟨_, h, hR⟩
/-- The two results' boxes. -/
theorem two_new (w : World) : ∃ V, ((w.alloc (.cells #[.int .i64 0] 29)).alloc (.cells #[.int .i64 0] 3)) = V ∧ (V.cell? ⟨w.heap.size, 0, none⟩ = some (.int .i64 0) ∧ V.frozen? ⟨w.heap.size, 0, none⟩ = false) ∧ (V.cell? ⟨w.heap.size + 1, 0, none⟩ = some (.int .i64 0) ∧ V.frozen? ⟨w.heap.size + 1, 0, none⟩ = false) ∧ Below w.heap.size w V ∧ V.heap.size = w.heap.size + 2 := by
  have h2 := World.alloc_heap_new w (.cells #[.int .i64 0] 29)
  have h3 := World.alloc_heap_new (w.alloc (.cells #[.int .i64 0] 29)) (.cells #[.int .i64 0] 3)
  have b2 := alloc_below0 w (.cells #[.int .i64 0] 29)
  have b3 := alloc_below0 (w.alloc (.cells #[.int .i64 0] 29)) (.cells #[.int .i64 0] 3)
  have h2' := (b3.block _ (Nat.lt_of_lt_of_eq (Nat.lt_succ_self _) (World.size_alloc _ _).symm)).trans h2
  rw [World.size_alloc] at h3
  exact ⟨_, rfl, ⟨cell_box h2' rfl, frozen_box h2'⟩, ⟨cell_box h3 rfl, frozen_box h3⟩, b2.trans (b3.mono b2.size), by rw [World.size_alloc, World.size_alloc]⟩
/-- The two results' boxes stand. -/
structure Kept2 (w W : World) : Prop where
  p : W.cell? ⟨w.heap.size, 0, none⟩ = some (.int .i64 0) ∧ W.frozen? ⟨w.heap.size, 0, none⟩ = false
  q : W.cell? ⟨w.heap.size + 1, 0, none⟩ = some (.int .i64 0) ∧ W.frozen? ⟨w.heap.size + 1, 0, none⟩ = false
  low : Below w.heap.size w W
theorem Kept2.of {w V W : World} {o : Obj} (h1 : V.cell? ⟨w.heap.size, 0, none⟩ = some (.int .i64 0) ∧ V.frozen? ⟨w.heap.size, 0, none⟩ = false) (h2 : V.cell? ⟨w.heap.size + 1, 0, none⟩ = some (.int .i64 0) ∧ V.frozen? ⟨w.heap.size + 1, 0, none⟩ = false) (h4 : Below w.heap.size w V) (hs : V.heap.size = w.heap.size + 2)
    (B1 : Below V.heap.size V (V.alloc o)) (hW : Below (w.heap.size + 2) (V.alloc o) W) : Kept2 w W := by
  have hb : ∀ k, k < w.heap.size + 2 → W.heap[k]? = V.heap[k]? := fun k hk => (hW.block k hk).trans (B1.block k (by omega))
  exact ⟨⟨(World.cell?_of_block (hb w.heap.size (by omega))).trans h1.1, (World.frozen?_of_block (hb w.heap.size (by omega))).trans h1.2⟩, ⟨(World.cell?_of_block (hb (w.heap.size + 1) (by omega))).trans h2.1, (World.frozen?_of_block (hb (w.heap.size + 1) (by omega))).trans h2.2⟩, h4.trans ((B1.mono (by omega)).trans (hW.mono (by omega)))⟩
/-- The first wrong one among the terms. -/
def firstB (l : List Sym) : List Bn → Int
  | [] => 0
  | x :: r => if chk l x.2.1 x.2.2 = 0 then firstB l r else chk l x.2.1 x.2.2
theorem firstB_of (l : List Sym) : ∀ bs : List Bk, firstE l (bs.map (·.2)) = firstB l (bs.map bkBn)
  | [] => rfl
  | x :: r => by
    simp only [List.map_cons, firstE, firstB, bkBn, Kv.tn]
    rw [firstB_of l r]
/-- What text and signature are read as: binds; or what is wrong, and where. -/
def fullB (s : ByteArray) (l : List Sym) : Except (Int × Nat) (List Bn) := if 800 < s.size then .error (55, 0) else match bindsC s l with
  | .error e => .error e
  | .ok (L, k) => match endR s k with
    | .error e => .error e
    | .ok _ => if firstB l L = 0 then .ok L else .error (firstB l L, 0)
/-- The slice with this address and length holds these binds. -/
structure BRow (w : World) (p : Option Addr) (n : Nat) (l : List Bn) : Prop where
  len : n = l.length
  small : n ≤ maxLen
  cells : ∀ i (h : i < l.length), ∃ b off a c, p = some ⟨b, off, none⟩ ∧ BdAt w b (off + i * 4) l[i] a c
theorem BindsAt.bRow {w : World} {p : Option Addr} {n : Nat} {l : List Bn} (h : BindsAt w p n l) : BRow w p n l := ⟨h.len, h.small, h.cells⟩
theorem BRow.below {w w' : World} {p : Option Addr} {n : Nat} {l : List Bn} (h : BRow w p n l) (hb : Below w.heap.size w w') : BRow w' p n l :=
  ⟨h.len, h.small, fun i hi => let ⟨b, off, a, c, h1, h2⟩ := h.cells i hi; ⟨b, off, a, c, h1, h2.below hb⟩⟩
theorem bkAll_at : ∀ (bs : List Bk) (i : Nat) (h : i < bs.length) (d : Nat), d < 4 → (bkAll bs)[i * 4 + d]? = (bkCells bs[i])[d]?
  | x :: r, 0, _, d, hd => by
    show (bkCells x ++ bkAll r)[0 * 4 + d]? = _
    rw [Nat.zero_mul, Nat.zero_add, List.getElem?_append_left (by show d < 4; exact hd)]
    rfl
  | x :: r, i + 1, h, d, hd => by
    show (bkCells x ++ bkAll r)[(i + 1) * 4 + d]? = _
    rw [List.getElem?_append_right (by show 4 ≤ _; omega)]
    have e : (i + 1) * 4 + d - (bkCells x).length = i * 4 + d := by show (i + 1) * 4 + d - 4 = _; omega
    rw [e, bkAll_at r i (by simpa using h) d hd]
    rfl
theorem bRow_of {w : World} {base : Nat} {v : Value} {bs : List Bk} (h : w.ownsRow base 50 4 v bs.length (bkAll bs)) (hT : ∀ k ∈ bs.map (·.2), TmAt w k.x k.a k.c k.l) : ∃ P c, v = .slice P bs.length c ∧ BRow w P bs.length (bs.map bkBn) := by
  rcases h.2 with ⟨rfl, h0⟩ | ⟨g, cap, cur, rfl, hb, hg, hnc, hcm, hsz, hcur⟩
  · obtain rfl : bs = [] := List.length_eq_zero_iff.1 h0
    exact ⟨none, 0, rfl, rfl, by simp, fun i hi => absurd hi (by simp)⟩
  · refine ⟨_, cap, rfl, by simp, by omega, fun i hi => ?_⟩
    have hi' : i < bs.length := by simpa using hi
    have hx : (bs.map bkBn)[i] = bkBn bs[i] := by simp
    rw [hx]
    have q : ∀ d u, d < 4 → (bkCells bs[i])[d]? = some u → w.cell? ⟨g, 0 + (i * 4 + d), none⟩ = some u := fun d u hd hu => owns_at h _ _ (by rw [bkAll_at bs i hi' d hd]; exact hu)
    have q0 := q 0 _ (by decide) rfl; have q1 := q 1 _ (by decide) rfl; have q2 := q 2 _ (by decide) rfl; have q3 := q 3 _ (by decide) rfl
    rw [← Nat.add_assoc] at q0 q1 q2 q3
    exact ⟨g, 0, bs[i].2.a, bs[i].2.c, rfl, q0, q1, q2, q3, hT _ (List.mem_map_of_mem (List.getElem_mem hi'))⟩
/-- How Binds ends. -/
def FullBEnd (w : World) (res : Except (Int × Nat) (List Bn)) (e : Ending) (w' : World) : Prop := (match res with
    | .error q => e = .returned (.tuple #[.slice none 0 0, .int .i64 q.1, .int .i64 q.2])
    | .ok L => ∃ P c, e = .returned (.tuple #[.slice P L.length c, .int .i64 0, .int .i64 0]) ∧ BRow w' P L.length L) ∧ Below w.heap.size w w'

set_option maxRecDepth 100000 in
set_option maxHeartbeats 4000000 in
theorem readB_long (S : Option Addr) (n cap : Nat) (s : ByteArray) (w : World) (hs : 800 < s.size) :
    Calls Try.prog 40 #[.slice S n cap, .string s, .func (.func 41) #[] #[]] w fun e w' => e = .returned (.tuple #[.slice none 0 0, .int .i64 55, .int .i64 0]) ∧ Below w.heap.size w w' := by
  have hmf : ∀ (fn : Fn) (first cap : Array Value) (w : World), (Instr.makeFunc fn first cap).run Try.prog w = .ok (.func fn first cap) w := fun _ _ _ _ => rfl
  have hs' : (800 : Int) < s.size := by omega
  go_enter_defers Try.func40, Try.ntmps40
  go_wp2
  obtain ⟨V, hV, hV1, hV2, hVl, hVs⟩ := two_new w
  rw [hV]
  refine doorB_fault (at_ := 0) rfl rfl rfl rfl (by simp [go_sem]) (catchB_fault _ _ 55 0 0 0 [] _ (by omega) hV1.1 hV2.1 hV1.2 hV2.2) (fun W' hf => ⟨rfl, ?_⟩)
  exact hVl.trans (hf.below (fun k hk => by omega) hVl.size)

set_option maxRecDepth 100000 in
set_option maxHeartbeats 4000000 in
theorem read_binds (S : Option Addr) (n cap : Nat) (l : List Sym) (s : ByteArray) (w : World) (hs : s.size ≤ 800) (hS : SigAt w S n l) :
    Calls Try.prog 40 #[.slice S n cap, .string s, .func (.func 41) #[] #[]] w fun e w' => FullBEnd w (fullB s l) e w' := by
  have hmf : ∀ (fn : Fn) (first cap : Array Value) (w : World), (Instr.makeFunc fn first cap).run Try.prog w = .ok (.func fn first cap) w := fun _ _ _ _ => rfl
  have hs' : ¬ (800 : Int) < s.size := by omega
  obtain ⟨V, hV, hV1, hV2, hVl, hVs⟩ := two_new w
  have B1 := alloc_below0 V (.cells #[.slice S n cap, .string s, .int .i64 0, .slice none 0 0] 98)
  have LV := hid (hVl.trans (B1.mono hVl.size))
  have R0 : RdBox (V.alloc (.cells #[.slice S n cap, .string s, .int .i64 0, .slice none 0 0] 98)) V.heap.size (.slice S n cap) s 0 (.slice none 0 0) := World.alloc_heap_new V _
  rw [hVs] at R0
  have hc := binds_rd (w0 := w) (B := w.heap.size + 2) (cap := cap) (by omega) hs hS (V.alloc (.cells #[.slice S n cap, .string s, .int .i64 0, .slice none 0 0] 98)) R0 LV.out
  have HC := hid hc
  have KE : Hid (∀ W, Below (w.heap.size + 2) (V.alloc (.cells #[.slice S n cap, .string s, .int .i64 0, .slice none 0 0] 98)) W → Kept2 w W) := hid fun W hW => Kept2.of hV1 hV2 hVl hVs B1 hW
  have hVa : Hid ((V.alloc (.cells #[.slice S n cap, .string s, .int .i64 0, .slice none 0 0] 98)).heap.size = w.heap.size + 3) := by show _ = _; rw [World.size_alloc, hVs]
  have HS := hid hS
  have hsm : s.size ≤ maxLen := by unfold maxLen; omega
  clear hc R0 B1 hV1 hV2 hVl hS
  obtain ⟨res, hres⟩ : ∃ res, fullB s l = res := ⟨_, rfl⟩
  rw [hres]
  unfold fullB at hres
  rw [if_neg (by omega)] at hres
  have HRS := hid hres
  clear hres
  go_enter_defers Try.func40, Try.ntmps40
  go_wp2_with fail
  clear hV
  generalize V.alloc (.cells #[.slice S n cap, .string s, .int .i64 0, .slice none 0 0] 98) = V1 at LV HC KE hVa ⊢
  have hc := HC.out
  have hres := HRS.out
  unfold BindsEnd at hc
  cases hr : bindsC s l with
  | error q =>
    rw [hr] at hc hres
    dsimp only at hc hres
    unfold faultP at hc
    refine hc.mono ?_
    rintro e w2 ⟨rfl, hb2⟩
    have K2 := hid (KE.out w2 hb2)
    have HR := hid hres
    clear hc hres hb2
    go_wp2
    refine doorB_fault rfl rfl rfl rfl (by simp [go_sem]) (catchB_fault _ _ q.1 q.2 0 0 [] _ (by omega) K2.out.p.1 K2.out.q.1 K2.out.p.2 K2.out.q.2) (fun W' hf => ?_)
    rw [← HR.out]
    exact ⟨rfl, K2.out.low.trans (hf.below (fun k hk => by omega) K2.out.low.size)⟩
  | ok qq =>
    obtain ⟨L, k'⟩ := qq
    rw [hr] at hc hres
    dsimp only at hc hres
    refine hc.mono ?_
    rintro e w2 ⟨⟨bs, v, tv, rfl, hL, hrow, hrb2, hls2, hk', hbl⟩, hb2⟩
    have K2 : Hid (∀ W, Below w2.heap.size w2 W → Kept2 w W) := hid fun W hW => KE.out W (hb2.trans (hW.mono (by have := hb2.size; rw [hVa.out] at this; omega)))
    have HRW := hid hrow; have HLS := hid hls2
    have HR := hid hres; have HLL := hid hL
    have hz2 := hb2.size
    rw [hVa.out] at hz2
    clear hc hres hrow hls2 hb2 HC KE HRS hL
    go_wp2_with fail
    have he := end_rd (w.heap.size + 2) (.slice S n cap) tv s k' w2 hrb2 hsm hk'
    cases hen : endR s k' with
    | error q =>
      have hres := HR.out
      rw [hen] at he hres
      dsimp only at he hres
      unfold faultP at he
      refine he.mono ?_
      rintro e w3 ⟨rfl, hb3⟩
      have K3 := hid (K2.out w3 hb3)
      have HR3 := hid hres
      clear he hres hb3 HR
      go_wp2
      refine doorB_fault rfl rfl rfl rfl (by simp [go_sem]) (catchB_fault _ _ q.1 q.2 0 0 [] _ (by omega) K3.out.p.1 K3.out.q.1 K3.out.p.2 K3.out.q.2) (fun W' hf => ?_)
      rw [← HR3.out]
      exact ⟨rfl, K3.out.low.trans (hf.below (fun k hk => by omega) K3.out.low.size)⟩
    | ok q =>
      have hres := HR.out
      rw [hen] at he hres
      dsimp only at he hres
      refine he.mono ?_
      rintro e w3 ⟨rfl, hb3⟩
      have K3 : Hid (∀ W, Below w3.heap.size w3 W → Kept2 w W) := hid fun W hW => K2.out W (hb3.trans (hW.mono hb3.size))
      have R3 := hrb2.below hb3
      have L3 := HLS.out.below hb3
      have O3 := hid (owns_below HRW.out hb3)
      have HR3 := hid hres
      have hz3 := hb3.size
      obtain ⟨ra, rc, hrv, _, _, hrowt, _, _⟩ := row_of_owns L3.row
      subst hrv
      have hblen : (bs.map (·.2)).length ≤ 1000 := by rw [List.length_map]; omega
      have hcc := check_rd (w.heap.size + 2) S n cap l s k' (bs.map (·.2)) ra rc w3 R3 (HS.out.below (K3.out w3 (Below.refl _ _)).low) hrowt hblen (fun k hk => (L3.own k hk).tm)
      have HL3 := hid L3
      clear he hres hb3 hrowt R3 L3 HR HLS hrb2 HRW
      go_wp2_with fail
      rw [firstB_of, HLL.out] at hcc
      by_cases hch : firstB l L = 0
      · refine hcc.mono ?_
        rintro e w4 ⟨he4, hb4⟩
        rw [if_pos hch] at he4
        subst he4
        have hres := HR3.out
        rw [if_pos hch] at hres
        have HR4 := hid hres
        have K4 := K3.out w4 hb4
        have O4 := hid (owns_below O3.out hb4)
        have HL4 := hid (HL3.out.below hb4)
        have p0 := K4.p.1; have p1 := K4.p.2; have q0 := K4.q.1; have q1 := K4.q.2
        have HK4 := hid K4
        have hs4 := hb4.size
        clear hcc K4 hb4 hres HR3
        go_wp2
        have e1 := two_sets (show w.heap.size ≠ w.heap.size + 1 by omega) HK4.out.p.1 HK4.out.q.1
        refine doorB_done rfl rfl rfl rfl (by simp [go_sem]) (catchB_none _ _ _) e1.1 e1.2.1 ?_
        obtain ⟨P, c, hv, hB⟩ := bRow_of (w := ((w4.setCell ⟨w.heap.size, 0, none⟩ (.int .i64 0)).setCell ⟨w.heap.size + 1, 0, none⟩ (.int .i64 0))) (owns_block O4.out (fun g hg => e1.2.2 g (by have := (owns_ne O4.out hg).1; rw [hVa.out] at this; omega) (by have := (owns_ne O4.out hg).1; rw [hVa.out] at this; omega))) (fun k hk => ((HL4.out.own k hk).keep (fun q hq _ => e1.2.2 q (by have := hq.1.1; rw [hVa.out] at this; omega) (by have := hq.1.1; rw [hVa.out] at this; omega))).tm)
        rw [← HR4.out]
        have hll : bs.length = L.length := by rw [← HLL.out, List.length_map]
        rw [HLL.out, hll] at hB
        refine ⟨⟨P, c, ?_, hB⟩, set_low (set_low HK4.out.low (Nat.le_refl _) _) (by omega) _⟩
        rw [hv, hll]
        rfl
      · refine hcc.mono ?_
        rintro e w4 ⟨he4, hb4⟩
        rw [if_neg hch] at he4
        unfold faultP at he4
        subst he4
        have hres := HR3.out
        rw [if_neg hch] at hres
        have HR4 := hid hres
        have K4 := hid (K3.out w4 hb4)
        clear hcc hb4 hres
        go_wp2
        refine doorB_fault rfl rfl rfl rfl (by simp [go_sem]) (catchB_fault _ _ (firstB l L) 0 0 0 [] _ (by omega) K4.out.p.1 K4.out.q.1 K4.out.p.2 K4.out.q.2) (fun W' hf => ?_)
        rw [← HR4.out]
        exact ⟨rfl, K4.out.low.trans (hf.below (fun k hk => by omega) K4.out.low.size)⟩
theorem readB_all (S : Option Addr) (n cap : Nat) (l : List Sym) (s : ByteArray) (w : World) (hS : SigAt w S n l) :
    Calls Try.prog 40 #[.slice S n cap, .string s, .func (.func 41) #[] #[]] w fun e w' => FullBEnd w (fullB s l) e w' := by
  by_cases hs : s.size ≤ 800
  · exact read_binds S n cap l s w hs hS
  · refine (readB_long S n cap s w (by omega)).mono ?_
    rintro e w' ⟨rfl, hb⟩
    have : fullB s l = .error (55, 0) := by unfold fullB; rw [if_pos (by omega)]
    rw [this]
    exact ⟨rfl, hb⟩
set_option maxRecDepth 100000 in
set_option maxHeartbeats 4000000 in
/-- Binds of a text. -/
theorem binds_any (S : Option Addr) (n cap : Nat) (l : List Sym) (s : ByteArray) (w : World) (hS : SigAt w S n l) :
    Calls Try.prog 15 #[.slice S n cap, .string s] w fun e w' => FullBEnd w (fullB s l) e w' := by
  have hc := readB_all S n cap l s w hS
  have HC := hid hc
  clear hc hS
  obtain ⟨res, hres⟩ : ∃ res, fullB s l = res := ⟨_, rfl⟩
  rw [hres] at HC ⊢
  clear hres
  go_enter Try.func15, Try.ntmps15
  go_wp2_with fail
  have hc := HC.out
  unfold FullBEnd at hc
  cases res with
  | error q =>
    dsimp only at hc
    refine hc.mono ?_
    rintro e w1 ⟨rfl, hb⟩
    have L1 := hid hb
    clear hc hb
    go_wp2
    go_ret3
    exact ⟨rfl, L1.out⟩
  | ok L =>
    dsimp only at hc
    refine hc.mono ?_
    rintro e w1 ⟨⟨P, c, rfl, hB⟩, hb⟩
    have L1 := hid hb; have HB := hid hB
    clear hc hb hB
    go_wp2
    go_ret3
    exact ⟨⟨P, c, rfl, HB.out⟩, L1.out⟩
end Go.Proofs.Ytkcbhbkldcebiaa

namespace Go.Proofs.Ytkcbhbkldcebiaa
open Go.RowKit Go.Deep

set_option maxRecDepth 100000 in
set_option maxHeartbeats 4000000 in
theorem same_true (P Q : Option Addr) (pc qc : Nat) (L M : List Bn) (w : World) (hP : BRow w P L.length L) (hQ : BRow w Q L.length M) (hA : ∀ i (hi : i < L.length) (hj : i < M.length), L[i].1 = M[i].1 ∧ exN L[i].2.1 M[i].2.1 L[i].2.2 M[i].2.2 = true) :
    Calls Try.prog 17 #[.slice P L.length pc, .slice Q L.length qc] w fun e w' => e = .returned (.bool true) ∧ Below w.heap.size w w' := by
  have HP := hid hP; have HQ := hid hQ; have HA := hid hA
  have hsm := hP.small
  unfold maxLen at hsm
  have HLM := hid hQ.len
  clear hP hQ hA
  go_enter Try.func17, Try.ntmps17
  go_wp2_with fail
  go_loopw [5, 6] (fun iv _ wr => ∃ i : Nat, iv = .int .i64 i ∧ i ≤ L.length ∧ Below w.heap.size w wr) (fun iv _ _ => L.length - (intOf iv).toNat)
  case atStart => exact ⟨0, rfl, Nat.zero_le _, Below.refl _ _⟩
  case round =>
    obtain ⟨i, rfl, hi, hb⟩ := hrel
    have HB := hid hb
    clear hb
    by_cases hlt : i < L.length
    · obtain ⟨b1, o1, ta, tc, hp, bd1⟩ := HP.out.cells i hlt
      obtain ⟨b2, o2, ua, uc, hq, bd2⟩ := HQ.out.cells i (by have := HLM.out; omega)
      obtain ⟨x, hx⟩ : ∃ x, L[i] = x := ⟨_, rfl⟩
      obtain ⟨y, hy⟩ : ∃ y, M[i]'(by have := HLM.out; omega) = y := ⟨_, rfl⟩
      have ha := HA.out i hlt (by have := HLM.out; omega)
      rw [hx] at bd1 ha
      rw [hy] at bd2 ha
      subst hp hq
      have c1 := bd1.below HB.out; have c2 := bd2.below HB.out
      have HN : Hid (∀ W, Below wr.heap.size wr W → Calls Try.prog 12 #[.agg #[.string x.2.1.1, .int .i64 x.2.1.2, .slice ta (lenF x.2.2) tc], .agg #[.string y.2.1.1, .int .i64 y.2.1.2, .slice ua (lenF y.2.2) uc]] W fun e w' => e = .returned (.bool true) ∧ Below W.heap.size W w') := hid fun W hW => by
        have h := rexact_any x.2 y.2 ta ua tc uc W (c1.tm.below hW) (c2.tm.below hW)
        rw [ha.2] at h
        exact h
      have hne := later_some wr
      have e1 := later_cell c1.name; have e2 := later_cell c1.sym; have e3 := later_cell c1.list
      have f1 := later_cell c2.name; have f2 := later_cell c2.sym; have f3 := later_cell c2.list
      have V1 := hid c1.var; have V2 := hid c2.var
      have HE := hid ha.1
      clear bd1 bd2 c1 c2 ha hx hy
      go_wp2_with fail
      refine wp_region_later (by kernel_rfl) (by kernel_rfl) ?_
      repeat (go_big_quiet_step (first | (go_at_call 12; with_reducible refine calls_later (HN.out _ ?_); exact Later.below _) | fail))
      refine wpQuiet_nil ?_
      intro _ hw'
      obtain ⟨b3, hw''⟩ := hw'
      subst hw''
      have HB3 := hid (HB.out.trans (b3.below.mono HB.out.size))
      have v1 := later_cell V1.out b3; have v2 := later_cell V2.out b3
      clear e1 e2 e3 f1 f2 f3 hne
      rw [← HE.out] at v2
      generalize b3.now = W3 at HB3 v1 v2 ⊢
      go_wp2_with fail
      have hne := later_some W3
      have g1 := later_cell v1; have g2 := later_cell v2
      refine wp_region_later (by kernel_rfl) (by kernel_rfl) ?_
      repeat (go_big_quiet_step (fail))
      refine wpQuiet_nil ?_
      intro _ hw'
      obtain ⟨b4, hw''⟩ := hw'
      subst hw''
      have HB4 := hid (HB3.out.trans (b4.below.mono HB3.out.size))
      clear g1 g2 hne
      go_wp2
      go_roundw
      case rel => exact ⟨i + 1, by go_num, by omega, HB4.out⟩
      case measure => simp [intOf]; omega
    · have hil : i = L.length := by omega
      subst hil
      go_wp2
      go_ret
      exact ⟨rfl, HB.out⟩
end Go.Proofs.Ytkcbhbkldcebiaa

namespace Go.Proofs.Ytkcbhbkldcebiaa
open Go.RowKit Go.Deep

/-! ### names and variables are words -/
theorem nameB_tok {b : ByteArray} (h : nameB b = true) : TokB 1 b := by
  unfold nameB fitsB at h
  simp only [Bool.and_eq_true, decide_eq_true_eq] at h
  obtain ⟨⟨h1, h2⟩, h3⟩ := h
  rw [allB_iff] at h3
  have h0 : lowZ (bt b 0) = true := by
    have := h3 0 (by omega)
    unfold okName at this
    simpa using this
  refine ⟨by omega, h2, .inl ⟨rfl, h0⟩, fun j hj hjz => ?_, fun h95 => ?_⟩
  · have := h3 j hjz
    unfold okName at this
    have hn : (bt b 0 != 95) = true := by
      have := low_not h0
      simp; omega
    unfold okTail
    rw [hn]
    simp only [Bool.or_eq_true, Bool.and_eq_true] at this
    rcases this with h | h
    · simp [h]
    · simp [h.2]
  · exfalso
    have := low_not h0
    omega
theorem up_not {c : Int} (h : upZ c = true) : 65 ≤ c ∧ c ≤ 90 := by
  unfold upZ at h
  simpa using h
theorem low_false {c : Int} (h : c < 97) : lowZ c = false := by
  unfold lowZ
  simp
  omega
theorem varB_tok {b : ByteArray} (h : varB b = true) : TokB 2 b := by
  unfold varB fitsB at h
  simp only [Bool.and_eq_true, decide_eq_true_eq, Bool.or_eq_true] at h
  obtain ⟨⟨h1, h2⟩, h3 | h3⟩ := h
  · unfold writtenB at h3
    rw [allB_iff] at h3
    have h0 : upZ (bt b 0) = true := by
      have := h3 0 (by omega)
      unfold okVar at this
      simpa using this
    have hu := up_not h0
    refine ⟨by omega, h2, .inr ⟨rfl, low_false (by omega), by simp [h0]⟩, fun j hj hjz => ?_, fun h95 => by omega⟩
    have := h3 j hjz
    unfold okVar at this
    have hn : (bt b 0 != 95) = true := by simp; omega
    unfold okTail
    rw [hn, h0]
    simp only [Bool.or_eq_true, Bool.and_eq_true] at this
    rcases this with h | ⟨_, h | h⟩ <;> simp [h]
  · unfold numberedB at h3
    simp only [Bool.and_eq_true, decide_eq_true_eq] at h3
    obtain ⟨h4, h3⟩ := h3
    rw [allB_iff] at h3
    have h0 : bt b 0 = 95 := by
      have := h3 0 (by omega)
      unfold okNum at this
      simpa using this
    refine ⟨by omega, h2, .inr ⟨rfl, low_false (by omega), by simp [h0]⟩, fun j hj hjz => ?_, fun _ => ⟨by omega, ?_⟩⟩
    · have := h3 j hjz
      unfold okNum at this
      have hd : digZ (bt b j) = true := by
        have hj0 : ¬ j = 0 := by omega
        simp only [Bool.or_eq_true, Bool.and_eq_true, decide_eq_true_eq] at this
        rcases this with (h | h) | h
        · exact absurd h.1 hj0
        · exact h.1.2
        · exact h.2
      unfold okTail
      simp [hd]
    · have := h3 1 (by omega)
      unfold okNum at this
      simp at this
      exact this.2
/-! ### right signatures -/
theorem check_at {l : List Sym} (h : checkE l = 0) : ∀ j, j < l.length → errAt l j = 0 := by
  intro j hj
  unfold checkE at h
  split at h
  · exact absurd h (by decide)
  · cases hf : firstErr l with
    | none =>
      unfold firstErr at hf
      rw [List.find?_eq_none] at hf
      have := hf j (List.mem_range.2 hj)
      simpa using this
    | some i =>
      exfalso
      rw [hf] at h
      dsimp only at h
      unfold firstErr at hf
      have := List.find?_some hf
      simp [h] at this
theorem sym_tok {l : List Sym} (h : checkE l = 0) {i : Int} (h0 : 0 ≤ i) (h1 : i < l.length) : TokB 1 (symB l i) ∧ findB l (symB l i) = true ∧ findI l (symB l i) = i := by
  obtain ⟨j, rfl⟩ : ∃ j : Nat, i = j := ⟨i.toNat, by omega⟩
  have hj : j < l.length := by omega
  have he := check_at h j hj
  unfold errAt at he
  rw [dif_pos hj] at he
  have hs : symB l (j : Int) = l[j].name := by
    unfold symB
    rw [if_pos (by omega)]
    simp [List.getD, hj]
  rw [hs]
  unfold symErr at he
  split at he
  · exact absurd he (by decide)
  · rename_i hn
    have hn1 : ¬ findB (l.take j) l[j].name = true := fun h => hn (.inl h)
    have hn2 : nameB l[j].name = true := by
      cases hb : nameB l[j].name with
      | true => rfl
      | false => exact absurd (.inr hb) hn
    have hf : findL l l[j].name = some j := by
      refine find_hit hj ((bytes_eq_iff _ _).2 rfl) (fun k hk hkj => ?_)
      cases hb : sameB l[k].name l[j].name with
      | false => rfl
      | true =>
        exfalso
        apply hn1
        unfold findB findL
        rw [List.findIdx?_isSome, List.any_eq_true]
        refine ⟨l[k], ?_, hb⟩
        rw [List.mem_take_iff_getElem]
        exact ⟨k, by omega, rfl⟩
    exact ⟨nameB_tok hn2, by unfold findB; rw [hf]; rfl, by unfold findI; rw [hf]⟩
theorem tokX_of {l : List Sym} (h : checkE l = 0) {x : ByteArray × Int} {m : Fo} (he : nodeErr l x (lenF m) = 0) : TokX l x m := by
  unfold TokX
  split
  · rename_i hx
    obtain ⟨h0, h1⟩ := node_in he hx
    exact sym_tok h h0 h1
  · rename_i hx
    unfold nodeErr at he
    have hn : noName x.1 = false := not_empty_of hx
    rw [if_pos hn] at he
    unfold varErr at he
    split at he
    · rename_i hv
      exact ⟨varB_tok hv.1, hv.2.1, len_nil hv.2.2⟩
    · exact absurd he (by decide)
theorem tokF_of {l : List Sym} (h : checkE l = 0) : ∀ {F : Fo}, errF l F = 0 → TokF l F
  | .nil, _ => trivial
  | .node _ _ x m r, he => by
    obtain ⟨h1, h2⟩ := thenC_zero he
    obtain ⟨h3, h4⟩ := thenC_zero h1
    exact ⟨tokX_of h h3, tokF_of h h4, tokF_of h h2⟩
theorem tok_of_chk {l : List Sym} (h : checkE l = 0) {x : ByteArray × Int} {m : Fo} (hc : chk l x m = 0) : TokX l x m ∧ TokF l m ∧ nodesF m + 1 ≤ 40 := by
  unfold chk at hc
  split at hc
  · exact absurd hc (by decide)
  · obtain ⟨h1, h2⟩ := thenC_zero hc
    exact ⟨tokX_of h h1, tokF_of h h2, by omega⟩
/-! ### lengths -/
theorem tokX_len {l : List Sym} {x : ByteArray × Int} {m : Fo} {k : Nat} (hx : TokX l x m) (hm : (showF l true m).length ≤ k) : (showN l x m).length ≤ k + 14 := by
  unfold TokX at hx
  unfold showN
  split
  · rename_i h0
    rw [if_pos h0] at hx
    have h1 := hx.1.short
    have h2 : (symB l x.2).data.toList.length = (symB l x.2).size := rfl
    rw [List.length_append]
    split
    · simp only [List.length_nil]; omega
    · simp only [List.length_append, List.length_cons, List.length_nil]; omega
  · rename_i h0
    rw [if_neg h0] at hx
    have h1 := hx.1.short
    have h2 : x.1.data.toList.length = x.1.size := rfl
    omega
theorem tokF_len {l : List Sym} : ∀ (F : Fo) (f : Bool), TokF l F → (showF l f F).length ≤ nodesF F * 15
  | .nil, _, _ => by simp [showF]
  | .node b o x m r, f, ⟨hx, hm, hr⟩ => by
    rw [showF_node]
    have h1 := tokX_len (l := l) (x := x) (m := m) hx (tokF_len m true hm)
    have h2 := tokF_len r false hr
    have h3 : (if f = true then ([] : List UInt8) else [44]).length ≤ 1 := by split <;> simp
    have h4 : nodesF (.node b o x m r) = nodesF m + nodesF r + 1 := rfl
    simp only [List.length_append]
    omega
theorem tok_short {l : List Sym} {x : ByteArray × Int} {m : Fo} (hx : TokX l x m) (hm : TokF l m) (hn : nodesF m + 1 ≤ 40) : (showN l x m).length ≤ 800 := by
  have := tokX_len hx (tokF_len m true hm)
  omega
/-! ### the same terms, but for where they lie -/
theorem len_clean : ∀ F : Fo, lenF (cleanF F) = lenF F
  | .nil => rfl
  | .node _ _ _ _ r => by simp only [cleanF, lenF]; rw [len_clean r]
theorem nodes_clean : ∀ F : Fo, nodesF (cleanF F) = nodesF F
  | .nil => rfl
  | .node _ _ _ m r => by simp only [cleanF, nodesF]; rw [nodes_clean m, nodes_clean r]
theorem errF_clean (l : List Sym) : ∀ F : Fo, errF l (cleanF F) = errF l F
  | .nil => rfl
  | .node _ _ _ m r => by simp only [cleanF, errF]; rw [errF_clean l m, errF_clean l r, len_clean]
theorem chk_clean (l : List Sym) (x : ByteArray × Int) (m : Fo) : chk l x (cleanF m) = chk l x m := by
  unfold chk errT
  rw [nodes_clean, errF_clean, len_clean]
theorem exF_clean : ∀ F : Fo, exF (cleanF F) F = true
  | .nil => rfl
  | .node _ _ x m r => by
    simp only [cleanF, exF]
    rw [exF_clean m, exF_clean r, len_clean]
    simp
theorem exN_clean (x : ByteArray × Int) (m : Fo) : exN x x (cleanF m) m = true := by
  unfold exN
  rw [exF_clean, len_clean]
  simp
/-- A term that is written is read. -/
theorem full_back {l : List Sym} (h : checkE l = 0) {x : ByteArray × Int} {m : Fo} (hc : chk l x m = 0) : fullR ⟨(showN l x m).toArray⟩ l = .ok (x, cleanF m) := by
  obtain ⟨h1, h2, h3⟩ := tok_of_chk h hc
  unfold fullR
  rw [term_back h1 h2 (tok_short h1 h2 h3)]
  dsimp only
  rw [chk_clean, if_pos hc]
/-! ### blanks ahead -/
theorem nx_skip {T : ByteArray} {k : Nat} (hk : k < T.size) (hb : bt T k = 32) : nx T k = nx T (k + 1) := by
  unfold nx
  rw [runTo_step (p := blank) hk (by unfold blank; simpa using hb)]
theorem look_skip {T : ByteArray} {k : Nat} (hk : k < T.size) (hb : bt T k = 32) : lookP T k = lookP T (k + 1) := by
  unfold lookP
  rw [nx_skip hk hb]
theorem next_skip {T : ByteArray} {k : Nat} (hk : k < T.size) (hb : bt T k = 32) : nextP T k = nextP T (k + 1) := by
  unfold nextP
  rw [look_skip hk hb]
theorem want_skip {T : ByteArray} {k : Nat} (hk : k < T.size) (hb : bt T k = 32) (kd : Int) : wantP T k kd = wantP T (k + 1) kd := by
  unfold wantP
  rw [next_skip hk hb]
theorem rd_skip {T : ByteArray} {l : List Sym} {k : Nat} (hk : k < T.size) (hb : bt T k = 32) : rdC T l false k = rdC T l false (k + 1) := by
  rw [rdC_eq (by omega), rdC_eq (by omega)]
  unfold rd1
  dsimp only
  rw [next_skip hk hb]
theorem nx_eq {T : ByteArray} {k : Nat} (hk : k < T.size) (hb : bt T k = 61) : nx T k = ⟨⟨6, T.extract k (k + 1), k⟩, k + 1, 0⟩ := by
  have hbl : runTo blank T k = k := runTo_stop (by unfold blank; rw [hb]; rfl)
  have hkd : kindP T k = 6 := by unfold kindP; rw [hb]; rfl
  have hend : endP T k = k + 1 := by unfold endP lenK; rw [hkd]; rfl
  have hbad : badP T k = false := by unfold badP; rw [hkd, hend, hb]; rfl
  have herr : errP T k = 0 := by unfold errP; rw [hbad, hend]; simp
  unfold nx
  rw [hbl, if_neg (by omega), if_pos herr, hkd, hend]
theorem nx_to7 {T : ByteArray} {k : Nat} (hk : k + 1 < T.size) (hb : bt T k = 45) (hb1 : bt T (k + 1) = 62) : nx T k = ⟨⟨7, T.extract k (k + 2), k⟩, k + 2, 0⟩ := by
  have hbl : runTo blank T k = k := runTo_stop (by unfold blank; rw [hb]; rfl)
  have hkd : kindP T k = 7 := by unfold kindP; rw [hb, hb1]; rfl
  have hend : endP T k = k + 2 := by unfold endP lenK; rw [hkd]; rfl
  have hbad : badP T k = false := by unfold badP; rw [hkd, hend, hb]; rfl
  have herr : errP T k = 0 := by unfold errP; rw [hbad, hend]; simp
  unfold nx
  rw [hbl, if_neg (by omega), if_pos herr, hkd, hend]
theorem soft_blank_eq {T : ByteArray} {k : Nat} (hk : k + 1 < T.size) (hb : bt T k = 32) (hb1 : bt T (k + 1) = 61) : Soft T k := by
  have h := (nx_skip (by omega) hb).trans (nx_eq (k := k + 1) hk hb1)
  refine ⟨fun a => tail_not a (by omega), ?_, ?_⟩
  · rw [h]
  · rw [h]; dsimp only; decide
/-- A term behind a blank. -/
theorem rd_behind {T : ByteArray} {l : List Sym} {x : ByteArray × Int} {m : Fo} {k : Nat} (hX : TokX l x m) (hF : TokF l m) (hs : Sits T k (32 :: showN l x m)) (hsoft : Soft T (k + 1 + (showN l x m).length)) : rdC T l false k = .ok (.node 0 0 x (cleanF m) .nil, k + 1 + (showN l x m).length) := by
  obtain ⟨h1, h2, h3⟩ := sits_one hs
  rw [rd_skip h1 h2]
  exact termSt_of (back_all l m).2 T (k + 1) hX hF h3 hsoft
/-- An equation that is written is read. -/
theorem fullE_back {l : List Sym} (h : checkE l = 0) {A B : Tn} (hA : chk l A.1 A.2 = 0) (hB : chk l B.1 B.2 = 0) (hz : (eqS l A B).length ≤ 800) : fullE ⟨(eqS l A B).toArray⟩ l = .ok ((A.1, cleanF A.2), (B.1, cleanF B.2)) := by
  obtain ⟨a1, a2, _⟩ := tok_of_chk h hA
  obtain ⟨b1, b2, _⟩ := tok_of_chk h hB
  have hsz : (⟨(eqS l A B).toArray⟩ : ByteArray).size = (eqS l A B).length := rfl
  have hs := sits_self (eqS l A B)
  have hll : (eqS l A B).length = (showN l A.1 A.2).length + 3 + (showN l B.1 B.2).length := by
    unfold eqS
    simp only [List.length_append, List.length_cons, List.length_nil]
  generalize hT : (⟨(eqS l A B).toArray⟩ : ByteArray) = T at hs hsz ⊢
  have hs' : Sits T 0 (showN l A.1 A.2 ++ (32 :: 61 :: (32 :: showN l B.1 B.2))) := by
    have e : eqS l A B = showN l A.1 A.2 ++ (32 :: 61 :: (32 :: showN l B.1 B.2)) := by unfold eqS; simp
    rw [← e]; exact hs
  obtain ⟨s1, s2⟩ := sits_append hs'
  rw [Nat.zero_add] at s2
  obtain ⟨c1, c2, s3⟩ := sits_one s2
  obtain ⟨d1, d2, s4⟩ := sits_one s3
  have r1 := termSt_of (back_all l A.2).2 T 0 a1 a2 s1 (by rw [Nat.zero_add]; exact soft_blank_eq d1 c2 d2)
  rw [Nat.zero_add] at r1
  have w1 : wantP T (showN l A.1 A.2).length 6 = .ok ⟨⟨6, T.extract ((showN l A.1 A.2).length + 1) ((showN l A.1 A.2).length + 1 + 1), (showN l A.1 A.2).length + 1⟩, (showN l A.1 A.2).length + 1 + 1, 0⟩ := by
    rw [want_skip c1 c2]
    exact want_is (nx_eq d1 d2) rfl rfl (by decide)
  have hE : (showN l A.1 A.2).length + 1 + 1 + 1 + (showN l B.1 B.2).length = T.size := by omega
  have r2 := rd_behind b1 b2 s4 (by rw [hE]; exact soft_end)
  rw [hE] at r2
  unfold fullE
  rw [if_neg (by omega)]
  unfold eqC
  rw [r1]
  dsimp only
  rw [w1]
  dsimp only
  rw [r2]
  dsimp only
  unfold endR
  rw [look_of nx_end rfl]
  dsimp only [noWd]
  rw [if_pos rfl]
  dsimp only
  rw [chk_clean, chk_clean, if_pos hA, if_pos hB]
/-! ### binds -/
def cleanB (x : Bn) : Bn := (x.1, x.2.1, cleanF x.2.2)
theorem bindC_skip {T : ByteArray} {l : List Sym} {k : Nat} (hk : k < T.size) (hb : bt T k = 32) : bindC T l k = bindC T l (k + 1) := by
  unfold bindC
  rw [want_skip hk hb]
theorem bind_back {l : List Sym} {T : ByteArray} {k : Nat} {x : Bn} (hv : TokB 2 x.1) (hX : TokX l x.2.1 x.2.2) (hF : TokF l x.2.2) (hs : Sits T k (x.1.data.toList ++ [32, 45, 62, 32] ++ showN l x.2.1 x.2.2)) (hsoft : Soft T (k + (x.1.data.toList ++ [32, 45, 62, 32] ++ showN l x.2.1 x.2.2).length)) :
    bindC T l k = .ok (x.1, (x.2.1, cleanF x.2.2), k + (x.1.data.toList ++ [32, 45, 62, 32] ++ showN l x.2.1 x.2.2).length) := by
  have hs' : Sits T k (x.1.data.toList ++ (32 :: 45 :: 62 :: (32 :: showN l x.2.1 x.2.2))) := by simpa [List.append_assoc] using hs
  obtain ⟨s1, s2⟩ := sits_append hs'
  have hz : x.1.data.toList.length = x.1.size := rfl
  rw [hz] at s2
  obtain ⟨c1, c2, s3⟩ := sits_one s2
  obtain ⟨d1, d2, s4⟩ := sits_one s3
  obtain ⟨e1, e2, s5⟩ := sits_one s4
  have hn := nx_tok hv s1 (by rw [c2]; exact tail_not _ (.inr (.inl rfl)))
  have w1 := want_is (kd := 2) hn rfl rfl (by decide)
  have w2 : wantP T (k + x.1.size) 7 = .ok ⟨⟨7, T.extract (k + x.1.size + 1) (k + x.1.size + 1 + 2), k + x.1.size + 1⟩, k + x.1.size + 1 + 2, 0⟩ := by
    rw [want_skip c1 c2]
    exact want_is (nx_to7 e1 d2 e2) rfl rfl (by decide)
  have hlen : (x.1.data.toList ++ [32, 45, 62, 32] ++ showN l x.2.1 x.2.2).length = x.1.size + 4 + (showN l x.2.1 x.2.2).length := by
    simp only [List.length_append, List.length_cons, List.length_nil, hz]
  rw [hlen] at hsoft ⊢
  have hE : k + x.1.size + 1 + 2 + 1 + (showN l x.2.1 x.2.2).length = k + (x.1.size + 4 + (showN l x.2.1 x.2.2).length) := by omega
  have r := rd_behind (k := k + x.1.size + 1 + 2) hX hF s5 (by rw [hE]; exact hsoft)
  rw [hE] at r
  unfold bindC
  rw [w1]
  dsimp only
  rw [w2]
  dsimp only
  rw [r]
/-- What can be read back of binds. -/
def TokBn (l : List Sym) (x : Bn) : Prop := TokB 2 x.1 ∧ TokX l x.2.1 x.2.2 ∧ TokF l x.2.2
theorem binds_soft {l : List Sym} {T : ByteArray} {k : Nat} {L : List Bn} (hs : Sits T k (bindsS l false L)) (hE : k + (bindsS l false L).length = T.size) : Soft T k := by
  cases L with
  | nil =>
    have e : k = T.size := by simpa [bindsS] using hE
    rw [e]; exact soft_end
  | cons x r =>
    have hs' : Sits T k (44 :: (32 :: (x.1.data.toList ++ [32, 45, 62, 32] ++ showN l x.2.1 x.2.2) ++ bindsS l false r)) := hs
    obtain ⟨h1, h2, _⟩ := sits_one hs'
    exact soft_sign h1 (.inr h2)
theorem bs_back {l : List Sym} {T : ByteArray} : ∀ (L : List Bn) (f k : Nat), T.size - k < f → (∀ x ∈ L, TokBn l x) → Sits T k (bindsS l false L) → k + (bindsS l false L).length = T.size → bsF T l f k = .ok (L.map cleanB, T.size)
  | [], f, k, hf, _, _, hE => by
    have e : k = T.size := by simpa [bindsS] using hE
    subst e
    obtain ⟨f, rfl⟩ : ∃ g, f = g + 1 := ⟨f - 1, by omega⟩
    unfold bsF
    rw [pass_no (by rw [nx_end]) (by rw [nx_end]; dsimp only [noWd]; decide)]
    rfl
  | x :: r, f, k, hf, hT, hs, hE => by
    obtain ⟨f, rfl⟩ : ∃ g, f = g + 1 := ⟨f - 1, by omega⟩
    have hs' : Sits T k (44 :: (32 :: ((x.1.data.toList ++ [32, 45, 62, 32] ++ showN l x.2.1 x.2.2) ++ bindsS l false r))) := hs
    have hlen : (bindsS l false (x :: r)).length = 2 + (x.1.data.toList ++ [32, 45, 62, 32] ++ showN l x.2.1 x.2.2).length + (bindsS l false r).length := by
      show ([44, 32] ++ (x.1.data.toList ++ [32, 45, 62, 32] ++ showN l x.2.1 x.2.2) ++ bindsS l false r).length = _
      rw [List.length_append, List.length_append]
      rfl
    rw [hlen] at hE
    obtain ⟨h1, h2, s1⟩ := sits_one hs'
    obtain ⟨h3, h4, s2⟩ := sits_one s1
    obtain ⟨s3, s4⟩ := sits_append s2
    obtain ⟨t1, t2, t3⟩ := hT x (by simp)
    have hE2 : k + 1 + 1 + (x.1.data.toList ++ [32, 45, 62, 32] ++ showN l x.2.1 x.2.2).length + (bindsS l false r).length = T.size := by omega
    have hb := bind_back t1 t2 t3 s3 (binds_soft s4 hE2)
    have ih := bs_back r f (k + 1 + 1 + (x.1.data.toList ++ [32, 45, 62, 32] ++ showN l x.2.1 x.2.2).length) (by omega) (fun y hy => hT y (by simp [hy])) s4 hE2
    unfold bsF
    rw [pass_of (nx_sign h1 h2 (.inr (.inr ⟨rfl, rfl⟩))) rfl rfl]
    dsimp only
    rw [bindC_skip h3 h4, hb]
    dsimp only
    rw [ih]
    rfl
theorem firstB_clean (l : List Sym) : ∀ L : List Bn, (∀ x ∈ L, chk l x.2.1 x.2.2 = 0) → firstB l (L.map cleanB) = 0
  | [], _ => rfl
  | x :: r, h => by
    simp only [List.map_cons, firstB, cleanB]
    rw [chk_clean, if_pos (h x (by simp))]
    exact firstB_clean l r (fun y hy => h y (by simp [hy]))
/-- Binds that are written are read. -/
theorem fullB_back {l : List Sym} (h : checkE l = 0) {L : List Bn} (hL : ∀ x ∈ L, varB x.1 = true ∧ chk l x.2.1 x.2.2 = 0) (hz : (bindsS l true L).length ≤ 800) : fullB ⟨(bindsS l true L).toArray⟩ l = .ok (L.map cleanB) := by
  have hT : ∀ x ∈ L, TokBn l x := fun x hx => by
    obtain ⟨h1, h2, _⟩ := tok_of_chk h (hL x hx).2
    exact ⟨varB_tok (hL x hx).1, h1, h2⟩
  have hsz : (⟨(bindsS l true L).toArray⟩ : ByteArray).size = (bindsS l true L).length := rfl
  have hs := sits_self (bindsS l true L)
  have hfb := firstB_clean l L (fun x hx => (hL x hx).2)
  generalize (⟨(bindsS l true L).toArray⟩ : ByteArray) = T at hs hsz ⊢
  suffices hb : bindsC T l = .ok (L.map cleanB, T.size) by
    unfold fullB
    rw [if_neg (by omega), hb]
    dsimp only
    unfold endR
    rw [look_of nx_end rfl]
    dsimp only [noWd]
    rw [if_pos rfl]
    dsimp only
    rw [if_pos hfb]
  cases L with
  | nil =>
    have e : 0 = T.size := by simpa [bindsS] using hsz.symm
    unfold bindsC
    rw [e, look_of nx_end rfl]
    dsimp only [noWd]
    rw [if_pos rfl, ← e]
    rfl
  | cons x r =>
    have hs' : Sits T 0 ((x.1.data.toList ++ [32, 45, 62, 32] ++ showN l x.2.1 x.2.2) ++ bindsS l false r) := hs
    obtain ⟨s1, s2⟩ := sits_append hs'
    have hlen : (bindsS l true (x :: r)).length = (x.1.data.toList ++ [32, 45, 62, 32] ++ showN l x.2.1 x.2.2).length + (bindsS l false r).length := by
      show ([] ++ (x.1.data.toList ++ [32, 45, 62, 32] ++ showN l x.2.1 x.2.2) ++ bindsS l false r).length = _
      rw [List.nil_append, List.length_append]
    rw [hlen] at hsz
    obtain ⟨t1, t2, t3⟩ := hT x (by simp)
    have hb := bind_back t1 t2 t3 s1 (binds_soft s2 (by omega))
    have ih := bs_back r (T.size + 1) _ (by omega) (fun y hy => hT y (by simp [hy])) s2 (by omega)
    rw [Nat.zero_add] at hb ih
    have hs1' : Sits T 0 (x.1.data.toList ++ (32 :: 45 :: 62 :: (32 :: showN l x.2.1 x.2.2))) := by simpa [List.append_assoc] using s1
    obtain ⟨u1, u2⟩ := sits_append hs1'
    rw [Nat.zero_add] at u2
    obtain ⟨_, c2, _⟩ := sits_one u2
    have hn := nx_tok t1 u1 (by rw [Nat.zero_add]; exact (by rw [show x.1.size = x.1.data.toList.length from rfl, c2]; exact tail_not _ (.inr (.inl rfl))))
    unfold bindsC
    rw [look_of hn rfl]
    dsimp only
    rw [if_neg (by decide), hb]
    dsimp only
    rw [ih]
    rfl
end Go.Proofs.Ytkcbhbkldcebiaa

namespace Go.Proofs.Ytkcbhbkldcebiaa
open Go.RowKit Go.Deep

def TupTm (w : World) (x : ByteArray × Int) (m : Fo) (e : Ending) (w' : World) : Prop := ∃ a c, e = .returned (.tuple #[.agg #[.string x.1, .int .i64 x.2, .slice a (lenF m) c], .int .i64 0, .int .i64 0]) ∧ OwnTm false (fun q => w.heap.size ≤ q) w' x a c m ∧ Below w.heap.size w w'

set_option maxRecDepth 100000 in
set_option maxHeartbeats 8000000 in
theorem textBack_walk (S : Option Addr) (n cap : Nat) (l : List Sym) (A B : Tn) (a b : Option Addr) (c d : Nat) (P : Option Addr) (m pc : Nat) (bl : List Bn) (w : World) (hT : AllAt w S n l A B a b c d P m bl) (hZ : AllSm l A B bl) :
    Calls Try.prog 7 #[.agg (allC S n cap A B a b c d P m pc)] w fun e w' => e = .returned (.bool true) ∧ Below w.heap.size w w' := by
  have hml := hT.bs.len
  subst hml
  have hsm := hT.bs.small
  unfold maxLen at hsm
  have HT := hid hT; have HZ := hid hZ
  unfold allC
  have I0 : Hid (StA w #[.slice S n cap, .string A.1.1, .int .i64 A.1.2, .slice a (lenF A.2) c, .string B.1.1, .int .i64 B.1.2, .slice b (lenF B.2) d, .slice P bl.length pc] (w.alloc (.cells #[.slice S n cap, .string A.1.1, .int .i64 A.1.2, .slice a (lenF A.2) c, .string B.1.1, .int .i64 B.1.2, .slice b (lenF B.2) d, .slice P bl.length pc] 43))) :=
    hid ⟨alloc_below0 w _, by rw [World.size_alloc]; omega, World.alloc_heap_new w _⟩
  clear hT hZ
  go_enter Try.func7, Try.ntmps7
  go_wp2_with fail
  generalize w.alloc (.cells #[.slice S n cap, .string A.1.1, .int .i64 A.1.2, .slice a (lenF A.2) c, .string B.1.1, .int .i64 B.1.2, .slice b (lenF B.2) d, .slice P bl.length pc] 43) = W0 at I0 ⊢
  obtain ⟨cs, hcs⟩ : ∃ cs : Array Value, cs = #[.slice S n cap, .string A.1.1, .int .i64 A.1.2, .slice a (lenF A.2) c, .string B.1.1, .int .i64 B.1.2, .slice b (lenF B.2) d, .slice P bl.length pc] := ⟨_, rfl⟩
  have HC : Hid (∀ W, StA w cs W → (W.cell? ⟨w.heap.size, 0, none⟩ = some (.slice S n cap)) ∧ (W.cell? ⟨w.heap.size, 1, none⟩ = some (.string A.1.1) ∧ W.cell? ⟨w.heap.size, 2, none⟩ = some (.int .i64 A.1.2) ∧ W.cell? ⟨w.heap.size, 3, none⟩ = some (.slice a (lenF A.2) c)) ∧ (W.cell? ⟨w.heap.size, 4, none⟩ = some (.string B.1.1) ∧ W.cell? ⟨w.heap.size, 5, none⟩ = some (.int .i64 B.1.2) ∧ W.cell? ⟨w.heap.size, 6, none⟩ = some (.slice b (lenF B.2) d)) ∧ W.cell? ⟨w.heap.size, 7, none⟩ = some (.slice P bl.length pc)) := hid fun W h => by
    have := h.box
    rw [hcs] at this
    exact ⟨cell_box this rfl, ⟨cell_box this rfl, cell_box this rfl, cell_box this rfl⟩, ⟨cell_box this rfl, cell_box this rfl, cell_box this rfl⟩, cell_box this rfl⟩
  rw [← hcs] at I0
  clear hcs
  refine (head_any W0).mono ?_
  rintro e w1 ⟨rfl, hb1⟩
  have I1 := hid (I0.out.below hb1)
  clear hb1 I0
  obtain ⟨i0, _, _, _⟩ := HC.out w1 I1.out
  go_wp2_with fail
  refine (sright_any S n cap l w1 (HT.out.sig.below I1.out.low)).mono ?_
  rintro e w2 ⟨rfl, hb2⟩
  have I2 := hid (I1.out.below hb2)
  clear hb2 I1 i0
  obtain ⟨i0, ⟨i1, i2, i3⟩, _, _⟩ := HC.out w2 I2.out
  go_wp2_with fail
  refine (rtcheck_any l S n cap A.1 A.2 a c w2 (HT.out.sig.below I2.out.low) (HT.out.one.below I2.out.low)).mono ?_
  rintro e w3 ⟨rfl, hb3⟩
  have I3 := hid (I2.out.below hb3)
  clear hb3 I2 i0 i1 i2 i3
  obtain ⟨i0, _, ⟨i4, i5, i6⟩, _⟩ := HC.out w3 I3.out
  go_wp2_with fail
  refine (rtcheck_any l S n cap B.1 B.2 b d w3 (HT.out.sig.below I3.out.low) (HT.out.two.below I3.out.low)).mono ?_
  rintro e w4 ⟨rfl, hb4⟩
  have I4 := hid (I3.out.below hb4)
  clear hb4 I3 i0 i4 i5 i6
  obtain ⟨re, hre⟩ : ∃ re, checkE l = re := ⟨_, rfl⟩
  obtain ⟨ea, hea⟩ : ∃ ea, chk l A.1 A.2 = ea := ⟨_, rfl⟩
  obtain ⟨eb, heb⟩ : ∃ eb, chk l B.1 B.2 = eb := ⟨_, rfl⟩
  rw [hre, hea, heb]
  by_cases h1 : re = 0
  · by_cases h2 : ea = 0
    · by_cases h3 : eb = 0
      · subst h1 h2 h3
        have RE := hid hre; have CA := hid hea; have CB := hid heb
        clear hre hea heb
        obtain ⟨j0, ⟨j1, j2, j3⟩, _, _⟩ := HC.out w4 I4.out
        have HSH : Hid (∀ W, Below w4.heap.size w4 W → Calls Try.prog 19 #[.slice S n cap, .agg #[.string A.1.1, .int .i64 A.1.2, .slice a (lenF A.2) c]] W fun e w' => e = .returned (.string ⟨(showN l A.1 A.2).toArray⟩) ∧ Below W.heap.size W w') := hid fun W hW => show_any S n cap l A.1 A.2 a c W ((HT.out.sig.below I4.out.low).below hW) ((HT.out.one.below I4.out.low).below hW) (Nat.le_trans HZ.out.one (by decide))
        have HTM : Hid (∀ W, Below w4.heap.size w4 W → Calls Try.prog 10 #[.slice S n cap, .string ⟨(showN l A.1 A.2).toArray⟩] W fun e w' => TupTm W A.1 (cleanF A.2) e w') := hid fun W hW => by
          have h := term_any S n cap l ⟨(showN l A.1 A.2).toArray⟩ W ((HT.out.sig.below I4.out.low).below hW)
          rw [full_back RE.out CA.out] at h
          exact h.mono (fun e w' ⟨⟨ta, tc, he, ho⟩, hb⟩ => ⟨ta, tc, he, ho, hb⟩)
        obtain ⟨sh, hsh⟩ : ∃ sh : ByteArray, (⟨(showN l A.1 A.2).toArray⟩ : ByteArray) = sh := ⟨_, rfl⟩
        rw [hsh] at HSH HTM
        clear hsh
        have Q0 := hid j0; have Q1 := hid j1; have Q2 := hid j2; have Q3 := hid j3
        go_wp2_with fail
        clear j0 j1 j2 j3
        go_cut [7, 8, 9] (fun p e q wc => ∃ g ta tc, p = .pointer (some ⟨g, 0, none⟩) ∧ e = .int .i64 0 ∧ q = .int .i64 0 ∧ XBox wc g A.1 (.slice ta (lenF (cleanF A.2)) tc) ∧ TmAt wc A.1 ta tc (cleanF A.2) ∧ Below w4.heap.size w4 wc)
        case first =>
          go_region_held3 (fun w' => w'.cell? ⟨w.heap.size, 0, none⟩ = some (.slice S n cap) ∧ w'.cell? ⟨w.heap.size, 1, none⟩ = some (.string A.1.1) ∧ w'.cell? ⟨w.heap.size, 2, none⟩ = some (.int .i64 A.1.2) ∧ w'.cell? ⟨w.heap.size, 3, none⟩ = some (.slice a (lenF A.2) c)) ((first
            | (refine ⟨?_, ?_, ?_, ?_⟩ <;> (with_reducible refine below_cell (w := w4) ?_ _ _ ?_; (solve | (repeat' first | (with_reducible exact Below.refl _ w4) | (with_reducible exact HB2.out) | (with_reducible exact HB1.out) | (with_reducible refine Below.drew ?_) | (with_reducible refine bl_over ?_ _) | (with_reducible refine sets_below ?_ (Nat.le_refl _) _ _ _) | (with_reducible refine sets_below ?_ HB1.out.size _ _ _))); first | exact Q0.out | exact Q1.out | exact Q2.out | exact Q3.out))
            | fail)) ((first
            | (go_at_call 19; refine Calls.mono (HSH.out _ ?_) ?_; (first | exact (Below.refl _ w4).drew | exact (alloc_below0 w4 _).drew); rintro e w5 ⟨rfl, hb5⟩; first
                | (have HB1 : Hid (Below w4.heap.size w4 w5) := ((Below.refl _ w4).drew).trans hb5; clear hb5)
                | (have HB1 : Hid (Below w4.heap.size w4 w5) := ((alloc_below0 w4 (.cells #[.string ⟨#[]⟩, .int .i64 0, .slice none 0 0] 28)).drew).trans (hb5.mono (show w4.heap.size ≤ (w4.alloc (.cells #[.string ⟨#[]⟩, .int .i64 0, .slice none 0 0] 28)).heap.size from Nat.le_trans (Nat.le_succ _) (Nat.le_of_eq (World.size_alloc _ _).symm))); have HY1 : Hid (XBox w5 w4.heap.size (⟨#[]⟩, 0) (.slice none 0 0)) := XBox.below (W := World.drew (World.alloc w4 (.cells #[.string ⟨#[]⟩, .int .i64 0, .slice none 0 0] 28))) (World.alloc_heap_new w4 _) hb5; clear hb5))
            | (go_at_call 10; refine Calls.mono (HTM.out _ ?_) ?_; (first | exact HB1.out | exact bl_over HB1.out _); rintro e w6 ⟨ta, tc, rfl, ht6, hb6⟩; first
                | (have HY2 : Hid (XBox w6 w4.heap.size (⟨#[]⟩, 0) (.slice none 0 0)) := HY1.out.below hb6; have HB2 : Hid (Below w4.heap.size w4 w6) := HB1.out.trans (hb6.mono HB1.out.size); have HL1 : Hid (w4.heap.size < w5.heap.size) := HY1.out.lt; have HT6 := hid ht6; have y0 := HY2.out.c0; have y1 := HY2.out.c1; have y2 := HY2.out.c2; have z0 := HY2.out.f (k := 0); have z1 := HY2.out.f (k := 1); have z2 := HY2.out.f (k := 2); clear ht6 hb6)
                | (have HB2 : Hid (Below w4.heap.size w4 w6) := HB1.out.trans (hb6.mono HB1.out.size); have HT6 := hid ht6; clear ht6 hb6)
                | (have HB2 : Hid (Below w4.heap.size w4 w6) := (bl_over HB1.out (.cells #[.string ⟨#[]⟩, .int .i64 0, .slice none 0 0] 28)).trans (hb6.mono (bl_over HB1.out (.cells #[.string ⟨#[]⟩, .int .i64 0, .slice none 0 0] 28)).size); have HY2 : Hid (XBox w6 w5.heap.size (⟨#[]⟩, 0) (.slice none 0 0)) := XBox.below (W := World.alloc w5 (.cells #[.string ⟨#[]⟩, .int .i64 0, .slice none 0 0] 28)) (World.alloc_heap_new w5 _) hb6; have HT6 := hid ht6; have y0 := HY2.out.c0; have y1 := HY2.out.c1; have y2 := HY2.out.c2; have z0 := HY2.out.f (k := 0); have z1 := HY2.out.f (k := 1); have z2 := HY2.out.f (k := 2); clear ht6 hb6))
            | fail))
          all_goals (go_wp2_with fail; go_meet)
          all_goals first
            | exact ⟨w6.heap.size, ta, tc, rfl, rfl, rfl, World.alloc_heap_new w6 _, HT6.out.tm.below (alloc_below0 w6 _), bl_over HB2.out _⟩
            | exact ⟨w4.heap.size, ta, tc, rfl, rfl, rfl, HY2.out.all (x := A.1) _, (HT6.out.keep (fun q hq _ => sets_far (by have := HL1.out; omega) _ _ _)).tm, sets_below HB2.out (Nat.le_refl _) _ _ _⟩
            | exact ⟨w5.heap.size, ta, tc, rfl, rfl, rfl, HY2.out.all (x := A.1) _, (HT6.out.keep (fun q hq _ => sets_far (by rw [World.size_alloc] at hq; omega) _ _ _)).tm, sets_below HB2.out HB1.out.size _ _ _⟩
        case rest =>
          obtain ⟨g, ta, tc, rfl, rfl, rfl, hX, hTm, hbc⟩ := hcut
          have I5 := hid (I4.out.below hbc)
          have HTm := hid hTm; have HX := hid hX
          clear hbc hTm hX I4 HSH HTM Q0 Q1 Q2 Q3
          obtain ⟨i0, ⟨i1, i2, i3⟩, _, _⟩ := HC.out wc I5.out
          have x0 := HX.out.c0; have x1 := HX.out.c1; have x2 := HX.out.c2
          have hex := rexact_any (A.1, cleanF A.2) A ta a tc c wc HTm.out (HT.out.one.below I5.out.low)
          rw [exN_clean] at hex
          have HEX := hid hex
          clear hex
          go_wp2_with fail
          refine HEX.out.mono ?_
          rintro e w5 ⟨rfl, hb5⟩
          have I6 := hid (I5.out.below hb5)
          clear hb5 HEX HX HTm x0 x1 x2 i0 i1 i2 i3 I5
          obtain ⟨i0, ⟨i1, i2, i3⟩, ⟨i4, i5, i6⟩, _⟩ := HC.out w5 I6.out
          go_wp2_with fail
          refine (showE_any S n cap l A B a b c d w5 (HT.out.sig.below I6.out.low) (HT.out.one.below I6.out.low) (HT.out.two.below I6.out.low) HZ.out.two).mono ?_
          rintro e w6 ⟨rfl, hb6⟩
          have I7 := hid (I6.out.below hb6)
          clear hb6 i0 i1 i2 i3 i4 i5 i6 I6
          have hez : (⟨(eqS l A B).toArray⟩ : ByteArray).size = (eqS l A B).length := rfl
          by_cases h8 : (eqS l A B).length ≤ 800
          · have HEQ : Hid (Calls Try.prog 13 #[.slice S n cap, .string ⟨(eqS l A B).toArray⟩] w6 fun e w' => (∃ p q r s, e = .returned (.tuple #[.agg #[.string A.1.1, .int .i64 A.1.2, .slice p (lenF (cleanF A.2)) q, .string B.1.1, .int .i64 B.1.2, .slice r (lenF (cleanF B.2)) s], .int .i64 0, .int .i64 0]) ∧ TmAt w' A.1 p q (cleanF A.2) ∧ TmAt w' B.1 r s (cleanF B.2)) ∧ Below w6.heap.size w6 w') := by
              have h := equation_any S n cap l ⟨(eqS l A B).toArray⟩ w6 (HT.out.sig.below I7.out.low)
              rw [fullE_back RE.out CA.out CB.out h8] at h
              exact h.mono (fun e w' ⟨⟨p, q, r, s, he, h1, h2⟩, hb⟩ => ⟨⟨p, q, r, s, he, h1.tm, h2.tm⟩, hb⟩)
            generalize (⟨(eqS l A B).toArray⟩ : ByteArray) = est at hez HEQ ⊢
            have h8' : (est.size : Int) ≤ 800 := by omega
            clear hez h8
            obtain ⟨i0, _, _, _⟩ := HC.out w6 I7.out
            go_wp2_with fail
            refine HEQ.out.mono ?_
            rintro e w7 ⟨⟨pa, qa, pb, qb, rfl, t7, u7⟩, hb7⟩
            have B7 := alloc_below0 w7 (.cells #[.string A.1.1, .int .i64 A.1.2, .slice pa (lenF (cleanF A.2)) qa, .string B.1.1, .int .i64 B.1.2, .slice pb (lenF (cleanF B.2)) qb] 35)
            have E7 : Hid (EBox (w7.alloc (.cells #[.string A.1.1, .int .i64 A.1.2, .slice pa (lenF (cleanF A.2)) qa, .string B.1.1, .int .i64 B.1.2, .slice pb (lenF (cleanF B.2)) qb] 35)) w7.heap.size A.1 (.slice pa (lenF (cleanF A.2)) qa) B.1 (.slice pb (lenF (cleanF B.2)) qb)) := World.alloc_heap_new w7 _
            have I8 := hid ((I7.out.below hb7).below B7)
            have T7 := hid (t7.below B7); have U7 := hid (u7.below B7)
            clear t7 u7 hb7 B7 i0 I7 HEQ
            obtain ⟨_, ⟨i1, i2, i3⟩, _, _⟩ := HC.out _ I8.out
            have e0 := E7.out.c 0; have e1 := E7.out.c 1; have e2 := E7.out.c 2
            go_wp2_with fail
            generalize w7.alloc (.cells #[.string A.1.1, .int .i64 A.1.2, .slice pa (lenF (cleanF A.2)) qa, .string B.1.1, .int .i64 B.1.2, .slice pb (lenF (cleanF B.2)) qb] 35) = W7 at E7 I8 T7 U7 i1 i2 i3 e0 e1 e2 ⊢
            generalize w7.heap.size = eb7 at E7 e0 e1 e2 ⊢
            have hex := rexact_any (A.1, cleanF A.2) A pa a qa c W7 T7.out (HT.out.one.below I8.out.low)
            rw [exN_clean] at hex
            refine hex.mono ?_
            rintro e w8 ⟨rfl, hb8⟩
            have I9 := hid (I8.out.below hb8)
            have U8 := hid (U7.out.below hb8)
            have E8 := E7.out.below hb8
            have f0 := E8.c 3; have f1 := E8.c 4; have f2 := E8.c 5
            clear hex hb8 i1 i2 i3 e0 e1 e2 I8 T7 U7 E7 E8
            obtain ⟨_, _, ⟨i4, i5, i6⟩, _⟩ := HC.out w8 I9.out
            go_wp2_with fail
            have hex := rexact_any (B.1, cleanF B.2) B pb b qb d w8 U8.out (HT.out.two.below I9.out.low)
            rw [exN_clean] at hex
            refine hex.mono ?_
            rintro e w9 ⟨rfl, hb9⟩
            have II := hid (I9.out.below hb9)
            clear hex hb9 i4 i5 i6 f0 f1 f2 I9 U8
            obtain ⟨_, _, _, j7⟩ := HC.out w9 II.out
            go_wp2_with fail
            go_loopw [17, 18] (fun iv _ wr => ∃ i : Nat, iv = .int .i64 i ∧ i ≤ bl.length ∧ StA w cs wr ∧ ∀ x ∈ bl.take i, varB x.1 = true ∧ chk l x.2.1 x.2.2 = 0) (fun iv _ _ => bl.length - (intOf iv).toNat)
            case atStart => exact ⟨0, rfl, Nat.zero_le _, II.out, fun x hx => by simp at hx⟩
            case round =>
              obtain ⟨i, rfl, hi, hst, hrt⟩ := hrel
              have Ir := hid hst; have HR := hid hrt
              clear hst hrt j7
              by_cases hlt : i < bl.length
              · obtain ⟨bb, off, ra, rc, rfl, bd0⟩ := HT.out.bs.cells i hlt
                obtain ⟨x, hx⟩ : ∃ x, bl[i] = x := ⟨_, rfl⟩
                have htk := take_next hlt
                have hfx := HT.out.bs.fits _ (List.getElem_mem hlt)
                rw [hx] at bd0 htk hfx
                have bd := bd0.below Ir.out.low
                obtain ⟨vb, hvb⟩ : ∃ vb, varB x.1 = vb := ⟨_, rfl⟩
                obtain ⟨ce, hce⟩ : ∃ ce, chk l x.2.1 x.2.2 = ce := ⟨_, rfl⟩
                have HV := hid (rvar_any x.1 wr hfx)
                rw [hvb] at HV
                have HN : Hid (∀ W, Below wr.heap.size wr W → Calls Try.prog 28 #[.slice S n cap, .agg #[.string x.2.1.1, .int .i64 x.2.1.2, .slice ra (lenF x.2.2) rc]] W fun e w' => e = .returned (.int .i64 ce) ∧ Below W.heap.size W w') := hid fun W hW => by
                  rw [← hce]
                  exact rtcheck_any l S n cap x.2.1 x.2.2 ra rc W ((HT.out.sig.below Ir.out.low).below hW) (bd.tm.below hW)
                have HVB := hid hvb; have HCE := hid hce; have HTK := hid htk
                obtain ⟨j0, _, _, j7⟩ := HC.out wr Ir.out
                have e0 := bd.var
                have hne := later_some wr
                have g0 := later_cell j0; have g7 := later_cell j7
                have e1 := later_cell bd.name; have e2 := later_cell bd.sym; have e3 := later_cell bd.list
                clear bd bd0 hx hvb hce htk hfx
                go_wp2_with fail
                refine HV.out.mono ?_
                rintro e wv ⟨rfl, rfl⟩
                cases vb with
                | false =>
                  go_wp2_with fail
                  refine wp_region_later (by kernel_rfl) (by kernel_rfl) ?_
                  repeat (go_big_quiet_step (fail))
                  refine wpQuiet_nil ?_
                  intro _ hw'
                  obtain ⟨b3, hw''⟩ := hw'
                  subst hw''
                  have I3 := hid (Ir.out.below b3.below)
                  clear g0 g7 e1 e2 e3 hne j0 j7
                  go_wp2
                  go_ret
                  exact ⟨rfl, I3.out.low⟩
                | true =>
                  go_wp2_with fail
                  refine wp_region_later (by kernel_rfl) (by kernel_rfl) ?_
                  repeat (go_big_quiet_step (first | (go_at_call 28; with_reducible refine calls_later (HN.out _ ?_); exact Later.below _) | fail))
                  refine wpQuiet_nil ?_
                  intro _ hw'
                  obtain ⟨b3, hw''⟩ := hw'
                  subst hw''
                  have I3 := hid (Ir.out.below b3.below)
                  clear g0 g7 e1 e2 e3 hne j0 j7
                  by_cases hc0 : ce = 0
                  · subst hc0
                    go_wp2
                    go_roundw
                    case rel =>
                      refine ⟨i + 1, by go_num, by omega, I3.out, fun y hy => ?_⟩
                      rw [HTK.out] at hy
                      rcases List.mem_append.1 hy with hy | hy
                      · exact HR.out y hy
                      · rw [List.mem_singleton.1 hy]; exact ⟨HVB.out, HCE.out⟩
                    case measure => simp [intOf]; omega
                  · have hcb : (ce != 0) = true := by simpa using hc0
                    go_wp2
                    go_ret
                    exact ⟨rfl, I3.out.low⟩
              · have hil : i = bl.length := by omega
                have HIN : Hid (∀ x ∈ bl, varB x.1 = true ∧ chk l x.2.1 x.2.2 = 0) := hid fun x hx => HR.out x (by rw [hil, List.take_length]; exact hx)
                clear hil
                obtain ⟨i0, _, _, j7⟩ := HC.out wr Ir.out
                go_wp2_with fail
                refine (showB_any S n cap l P bl.length pc bl wr (HT.out.sig.below Ir.out.low) (HT.out.bs.below Ir.out.low) HZ.out.bs).mono ?_
                rintro e wb ⟨rfl, hbb⟩
                have Ib := hid (Ir.out.below hbb)
                clear hbb i0 j7
                have hbz : (⟨(bindsS l true bl).toArray⟩ : ByteArray).size = (bindsS l true bl).length := rfl
                by_cases h8 : 800 < (bindsS l true bl).length
                · generalize (⟨(bindsS l true bl).toArray⟩ : ByteArray) = bst at hbz ⊢
                  have h8' : (800 : Int) < (bst.size : Int) := by omega
                  clear hbz
                  go_wp2
                  go_ret
                  exact ⟨rfl, Ib.out.low⟩
                · have HBN : Hid (∀ W, Below wb.heap.size wb W → Calls Try.prog 15 #[.slice S n cap, .string ⟨(bindsS l true bl).toArray⟩] W fun e w' => (∃ P2 c2, e = .returned (.tuple #[.slice P2 bl.length c2, .int .i64 0, .int .i64 0]) ∧ BRow w' P2 bl.length (bl.map cleanB)) ∧ Below W.heap.size W w') := hid fun W hW => by
                    have h := binds_any S n cap l ⟨(bindsS l true bl).toArray⟩ W ((HT.out.sig.below Ib.out.low).below hW)
                    rw [fullB_back RE.out HIN.out (by omega)] at h
                    unfold FullBEnd at h
                    dsimp only at h
                    rw [List.length_map] at h
                    exact h
                  generalize (⟨(bindsS l true bl).toArray⟩ : ByteArray) = bst at hbz HBN ⊢
                  have h8' : ¬ (800 : Int) < (bst.size : Int) := by omega
                  clear hbz h8
                  obtain ⟨i0, _, _, j7⟩ := HC.out wb Ib.out
                  go_wp2_with fail
                  refine (HBN.out wb (Below.refl _ _)).mono ?_
                  rintro e wd ⟨⟨P2, c2, rfl, hrow⟩, hbd⟩
                  have Id := hid (Ib.out.below hbd)
                  have hsame := same_true P2 P c2 pc (bl.map cleanB) bl wd (by rw [List.length_map]; exact hrow) (by rw [List.length_map]; exact (HT.out.bs.below Id.out.low).bRow) (fun i hi hj => by
                    rw [List.getElem_map]
                    exact ⟨rfl, exN_clean _ _⟩)
                  rw [List.length_map] at hsame
                  have HSM := hid hsame
                  clear hbd hrow i0 j7 hsame
                  obtain ⟨_, _, _, j7⟩ := HC.out wd Id.out
                  go_wp2_with fail
                  refine HSM.out.mono ?_
                  rintro e wf ⟨rfl, hbf⟩
                  have If := hid (Id.out.below hbf)
                  clear hbf j7
                  go_wp2
                  go_ret
                  exact ⟨rfl, If.out.low⟩
          · generalize (⟨(eqS l A B).toArray⟩ : ByteArray) = est at hez ⊢
            have h8' : ¬ (est.size : Int) ≤ 800 := by omega
            have II := I7
            clear hez h8 I7
            obtain ⟨_, _, _, j7⟩ := HC.out w6 II.out
            go_wp2_with fail
            go_loopw [17, 18] (fun iv _ wr => ∃ i : Nat, iv = .int .i64 i ∧ i ≤ bl.length ∧ StA w cs wr ∧ ∀ x ∈ bl.take i, varB x.1 = true ∧ chk l x.2.1 x.2.2 = 0) (fun iv _ _ => bl.length - (intOf iv).toNat)
            case atStart => exact ⟨0, rfl, Nat.zero_le _, II.out, fun x hx => by simp at hx⟩
            case round =>
              obtain ⟨i, rfl, hi, hst, hrt⟩ := hrel
              have Ir := hid hst; have HR := hid hrt
              clear hst hrt j7
              by_cases hlt : i < bl.length
              · obtain ⟨bb, off, ra, rc, rfl, bd0⟩ := HT.out.bs.cells i hlt
                obtain ⟨x, hx⟩ : ∃ x, bl[i] = x := ⟨_, rfl⟩
                have htk := take_next hlt
                have hfx := HT.out.bs.fits _ (List.getElem_mem hlt)
                rw [hx] at bd0 htk hfx
                have bd := bd0.below Ir.out.low
                obtain ⟨vb, hvb⟩ : ∃ vb, varB x.1 = vb := ⟨_, rfl⟩
                obtain ⟨ce, hce⟩ : ∃ ce, chk l x.2.1 x.2.2 = ce := ⟨_, rfl⟩
                have HV := hid (rvar_any x.1 wr hfx)
                rw [hvb] at HV
                have HN : Hid (∀ W, Below wr.heap.size wr W → Calls Try.prog 28 #[.slice S n cap, .agg #[.string x.2.1.1, .int .i64 x.2.1.2, .slice ra (lenF x.2.2) rc]] W fun e w' => e = .returned (.int .i64 ce) ∧ Below W.heap.size W w') := hid fun W hW => by
                  rw [← hce]
                  exact rtcheck_any l S n cap x.2.1 x.2.2 ra rc W ((HT.out.sig.below Ir.out.low).below hW) (bd.tm.below hW)
                have HVB := hid hvb; have HCE := hid hce; have HTK := hid htk
                obtain ⟨j0, _, _, j7⟩ := HC.out wr Ir.out
                have e0 := bd.var
                have hne := later_some wr
                have g0 := later_cell j0; have g7 := later_cell j7
                have e1 := later_cell bd.name; have e2 := later_cell bd.sym; have e3 := later_cell bd.list
                clear bd bd0 hx hvb hce htk hfx
                go_wp2_with fail
                refine HV.out.mono ?_
                rintro e wv ⟨rfl, rfl⟩
                cases vb with
                | false =>
                  go_wp2_with fail
                  refine wp_region_later (by kernel_rfl) (by kernel_rfl) ?_
                  repeat (go_big_quiet_step (fail))
                  refine wpQuiet_nil ?_
                  intro _ hw'
                  obtain ⟨b3, hw''⟩ := hw'
                  subst hw''
                  have I3 := hid (Ir.out.below b3.below)
                  clear g0 g7 e1 e2 e3 hne j0 j7
                  go_wp2
                  go_ret
                  exact ⟨rfl, I3.out.low⟩
                | true =>
                  go_wp2_with fail
                  refine wp_region_later (by kernel_rfl) (by kernel_rfl) ?_
                  repeat (go_big_quiet_step (first | (go_at_call 28; with_reducible refine calls_later (HN.out _ ?_); exact Later.below _) | fail))
                  refine wpQuiet_nil ?_
                  intro _ hw'
                  obtain ⟨b3, hw''⟩ := hw'
                  subst hw''
                  have I3 := hid (Ir.out.below b3.below)
                  clear g0 g7 e1 e2 e3 hne j0 j7
                  by_cases hc0 : ce = 0
                  · subst hc0
                    go_wp2
                    go_roundw
                    case rel =>
                      refine ⟨i + 1, by go_num, by omega, I3.out, fun y hy => ?_⟩
                      rw [HTK.out] at hy
                      rcases List.mem_append.1 hy with hy | hy
                      · exact HR.out y hy
                      · rw [List.mem_singleton.1 hy]; exact ⟨HVB.out, HCE.out⟩
                    case measure => simp [intOf]; omega
                  · have hcb : (ce != 0) = true := by simpa using hc0
                    go_wp2
                    go_ret
                    exact ⟨rfl, I3.out.low⟩
              · have hil : i = bl.length := by omega
                have HIN : Hid (∀ x ∈ bl, varB x.1 = true ∧ chk l x.2.1 x.2.2 = 0) := hid fun x hx => HR.out x (by rw [hil, List.take_length]; exact hx)
                clear hil
                obtain ⟨i0, _, _, j7⟩ := HC.out wr Ir.out
                go_wp2_with fail
                refine (showB_any S n cap l P bl.length pc bl wr (HT.out.sig.below Ir.out.low) (HT.out.bs.below Ir.out.low) HZ.out.bs).mono ?_
                rintro e wb ⟨rfl, hbb⟩
                have Ib := hid (Ir.out.below hbb)
                clear hbb i0 j7
                have hbz : (⟨(bindsS l true bl).toArray⟩ : ByteArray).size = (bindsS l true bl).length := rfl
                by_cases h8 : 800 < (bindsS l true bl).length
                · generalize (⟨(bindsS l true bl).toArray⟩ : ByteArray) = bst at hbz ⊢
                  have h8' : (800 : Int) < (bst.size : Int) := by omega
                  clear hbz
                  go_wp2
                  go_ret
                  exact ⟨rfl, Ib.out.low⟩
                · have HBN : Hid (∀ W, Below wb.heap.size wb W → Calls Try.prog 15 #[.slice S n cap, .string ⟨(bindsS l true bl).toArray⟩] W fun e w' => (∃ P2 c2, e = .returned (.tuple #[.slice P2 bl.length c2, .int .i64 0, .int .i64 0]) ∧ BRow w' P2 bl.length (bl.map cleanB)) ∧ Below W.heap.size W w') := hid fun W hW => by
                    have h := binds_any S n cap l ⟨(bindsS l true bl).toArray⟩ W ((HT.out.sig.below Ib.out.low).below hW)
                    rw [fullB_back RE.out HIN.out (by omega)] at h
                    unfold FullBEnd at h
                    dsimp only at h
                    rw [List.length_map] at h
                    exact h
                  generalize (⟨(bindsS l true bl).toArray⟩ : ByteArray) = bst at hbz HBN ⊢
                  have h8' : ¬ (800 : Int) < (bst.size : Int) := by omega
                  clear hbz h8
                  obtain ⟨i0, _, _, j7⟩ := HC.out wb Ib.out
                  go_wp2_with fail
                  refine (HBN.out wb (Below.refl _ _)).mono ?_
                  rintro e wd ⟨⟨P2, c2, rfl, hrow⟩, hbd⟩
                  have Id := hid (Ib.out.below hbd)
                  have hsame := same_true P2 P c2 pc (bl.map cleanB) bl wd (by rw [List.length_map]; exact hrow) (by rw [List.length_map]; exact (HT.out.bs.below Id.out.low).bRow) (fun i hi hj => by
                    rw [List.getElem_map]
                    exact ⟨rfl, exN_clean _ _⟩)
                  rw [List.length_map] at hsame
                  have HSM := hid hsame
                  clear hbd hrow i0 j7 hsame
                  obtain ⟨_, _, _, j7⟩ := HC.out wd Id.out
                  go_wp2_with fail
                  refine HSM.out.mono ?_
                  rintro e wf ⟨rfl, hbf⟩
                  have If := hid (Id.out.below hbf)
                  clear hbf j7
                  go_wp2
                  go_ret
                  exact ⟨rfl, If.out.low⟩
      · have hne : (eb != 0) = true := by simpa using h3
        subst h1 h2
        clear hre hea heb
        go_wp2
        go_ret
        exact ⟨rfl, I4.out.low⟩
    · have hne : (ea != 0) = true := by simpa using h2
      subst h1
      clear hre hea heb
      go_wp2
      go_ret
      exact ⟨rfl, I4.out.low⟩
  · have hne : (re == 0) = false := by simpa using h1
    clear hre hea heb
    go_wp2
    go_ret
    exact ⟨rfl, I4.out.low⟩
end Go.Proofs.Ytkcbhbkldcebiaa

namespace Go.Proofs.Ytkcbhbkldcebiaa
open Go.ChangeShapes Go.WideShapes Go.ChangeAt Go.RowKit Go.Deep

set_option maxRecDepth 100000 in
theorem textBack_contract (H : Type) (enc : TypeId × Value → H) (W : World) (base : Nat) (args : Array Value) (ds gs : List (DataW H)) (before : List MemPlace)
    (hval : ∀ (j : Nat) t v, Try.f7.params[j]? = some t → args[j]? = some v → Value.okWide Try.prog W .any base t v)
    (hW : DataW.Whole enc Try.prog Try.f7.params.toList Rows.textBackSpec.vars false W args.toList ds gs before) (hk : Rows.uptoSmall H (ds ++ gs) = true) :
    Calls Try.prog 7 args W fun e W' => ∃ v, e = .returned v ∧ Rows.textBackSpec.post enc Try.prog Try.f7 false true false false W args v W' := by
  have hW' := hW
  obtain ⟨p, q, hA0, hV, rfl, hfz, hnd⟩ := hW
  have hA : DataW.TrodAll enc Try.prog W 0 (fun _ => true) true Try.f7.params.toList args.toList ds p := hA0
  rw [Try.params7] at hA hval
  obtain ⟨v0, vs0, d0, ds0, p0, q0, hargs, rfl, rfl, h0, r0⟩ := trodAll_cons hA
  obtain ⟨rfl, rfl, rfl⟩ := trodAll_nil r0
  obtain rfl : args = #[v0] := by cases args; simp_all
  obtain ⟨rfl, rfl⟩ := trodVars_none hV
  have lt0 : ∀ x ∈ p0, x.block < W.heap.size := by obtain ⟨m, hm⟩ := h0; exact DataW.trod_lt m _ _ _ hm
  have hbulk : Rows.uptoBulk d0 ≤ 1048576 := by
    have h : Rows.uptoBulkAll ([d0] ++ []) ≤ 1048576 := of_decide_eq_true hk
    simp only [List.append_nil, Rows.uptoBulkAll] at h
    omega
  obtain ⟨S, n, cap, l, A, B, a, b, c, d, P, m, pc, bl, rfl, hT, hs⟩ := all_open (hval 0 43 v0 rfl rfl) h0 hbulk
  clear hA0
  refine (textBack_walk S n cap l A B a b c d P m pc bl W hT hs).mono fun e W' ⟨he, bel⟩ => ?_
  subst he
  exact ⟨_, rfl, _, _, _, [], _, [], hW', trodAll_mk1 (shut_bool Try.underlying4 _), (trodAll_cons_mk (Below.trod laidOut (by kernel_rfl) (of_decide_eq_true (by kernel_rfl)) h0 bel lt0) trodAll_mk0), rfl, bel.frame _, fun h => by cases h⟩

set_option maxRecDepth 100000 in
theorem textBack_lifted (os : Os) (started : os.Started) (H : Type) (enc : TypeId × Value → H) (F : Stop.Interp) :
    ReturnsInHanded {} Try.checked os 7 .any ((Rows.OpenSpec.upto Rows.textBackSpec).pre6 enc Try.prog Try.f7 Rows.textBackUptoRow.domain false) (((Rows.OpenSpec.upto Rows.textBackSpec).at F).post enc Try.prog Try.f7 false true false false) := by
  refine returnsInHanded_of_cond (C := Try.checked) (s := Rows.OpenSpec.upto Rows.textBackSpec) (k := Rows.uptoSmall) rfl own started (by kernel_rfl) Try.func7
    (OpenSpec.witness (enc := enc) (C := Try.checked) (s := Rows.OpenSpec.upto Rows.textBackSpec) (k := Rows.uptoSmall) rfl false ⟨#[], #[.agg #[.slice none 0 0, .string .empty, .int .i64 0, .slice none 0 0, .string .empty, .int .i64 0, .slice none 0 0, .slice none 0 0]], []⟩ 8 (by kernel_rfl) (by kernel_rfl) (by kernel_rfl)
      (x := ([.agg [.nil, .agg [.lit (.string []), .lit (.int .i64 0), .nil], .agg [.lit (.string []), .lit (.int .i64 0), .nil], .nil]], [], [])) (by kernel_rfl) rfl (by kernel_rfl)) ?_
  intro W base args ds gs before hval hW _ hk _
  exact textBack_contract H enc W base args ds gs before hval hW hk

set_option maxRecDepth 100000 in
theorem textBack_holds : Rows.TextBackUptoSaid :=
  OpenClaim.holds_of_cond 7 Try.f7 rfl rfl rfl rfl rfl rfl rfl ⟨rfl, rfl, rfl, rfl, rfl⟩ rfl rfl rfl rfl rfl (by kernel_rfl) Try.func7 (by kernel_rfl)
    (of_decide_eq_true (by kernel_rfl)) (by unfold Func.isWrapper; first | (rw [if_pos (by decide +kernel)]; kernel_rfl) | (rw [if_neg (by decide +kernel)]; exact ⟨rfl, rfl⟩))
    (fun os started H enc _ F => textBack_lifted os started H enc F)
end Go.Proofs.Ytkcbhbkldcebiaa
