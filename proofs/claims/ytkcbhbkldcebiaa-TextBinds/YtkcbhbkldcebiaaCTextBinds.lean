/- For every signature and every list of texts TextBinds returns true: Binds of package text reads each text as the document says, or tells what is wrong and where, and what was handed in stays; no condition. -/
import Derived.Test.YtkcbhbkldcebiaaTSpoil
import Derived.Test.YtkcbhbkldcebiaaTPath
import Derived.Test.YtkcbhbkldcebiaaZCheck
import Derived.RegionDies
import Derived.Test.YtkcbhbkldcebiaaZRead
import Derived.Test.YtkcbhbkldcebiaaZShow
import Derived.Test.YtkcbhbkldcebiaaYDoc
import Derived.Test.YtkcbhbkldcebiaaZHead
import Derived.Test.YtkcbhbkldcebiaaSOpen
namespace Go.Proofs.Ytkcbhbkldcebiaa
open Go.RowKit Go.Deep

/-- Alike in every field. -/
def exF : Fo → Fo → Bool
  | .nil, _ => true
  | .node _ _ _ _ _, .nil => true
  | .node _ _ x l r, .node _ _ y m s => ((x.1.toList == y.1.toList) && (x.2 == y.2) && (lenF l == lenF m) && exF l m) && exF r s
def exN (x y : ByteArray × Int) (l m : Fo) : Bool := (x.1.toList == y.1.toList) && (x.2 == y.2) && (lenF l == lenF m) && exF l m
def RExactOk (k : Nat) : Prop := ∀ (x y : ByteArray × Int) (l m : Fo) (a b : Option Addr) (c d : Nat) (w : World), nodesF l ≤ k → TmAt w x a c l → TmAt w y b d m →
  Calls Try.prog 12 #[.agg #[.string x.1, .int .i64 x.2, .slice a (lenF l) c], .agg #[.string y.1, .int .i64 y.2, .slice b (lenF m) d]] w fun e w' => e = .returned (.bool (exN x y l m)) ∧ Below w.heap.size w w'

set_option maxRecDepth 100000 in
set_option maxHeartbeats 2000000 in
theorem rexact_all : ∀ k, RExactOk k := by
  intro k
  induction k using Nat.strongRecOn with
  | _ k ih =>
    intro x y l m a b c d w hk hS hT
    have HS : Hid (TmAt w x a c l) := hS
    have HT : Hid (TmAt w y b d m) := hT
    have IH : Hid (∀ j, j < k → RExactOk j) := ih
    have PA : Hid (Pair w x a (lenF l) c y b (lenF m) d ((w.alloc (.cells #[.string x.1, .int .i64 x.2, .slice a (lenF l) c] 28)).alloc (.cells #[.string y.1, .int .i64 y.2, .slice b (lenF m) d] 28))) := Pair.new _ _ _ _ _ _ _ _ _
    have hn : lenF l ≤ 9223372036854775807 := by have := hS.sizes.len; have := hS.sizes.cap; unfold maxLen at *; omega
    have hn2 : lenF m ≤ 9223372036854775807 := by have := hT.sizes.len; have := hT.sizes.cap; unfold maxLen at *; omega
    clear hS hT ih
    obtain ⟨xn, xs⟩ := x
    obtain ⟨yn, ys⟩ := y
    cases h1 : (xn.toList == yn.toList)
    · have e : Hid (exN (xn, xs) (yn, ys) l m = false) := by show _ = _; unfold exN; rw [h1]; rfl
      have hd : ¬ (xn.toList = yn.toList) := by simpa using h1
      go_enter Try.func12, Try.ntmps12
      go_wp2
      go_ret
      exact ⟨by rw [e.out]; rfl, PA.out.low⟩
    · cases h2 : (xs == ys)
      · have e : Hid (exN (xn, xs) (yn, ys) l m = false) := by show _ = _; unfold exN; rw [h1, h2]; rfl
        have h2' : (xs != ys) = true := by simpa using h2
        go_enter Try.func12, Try.ntmps12
        go_wp2
        go_ret
        exact ⟨by rw [e.out]; rfl, PA.out.low⟩
      · obtain rfl : xs = ys := by simpa using h2
        cases h3 : (lenF l == lenF m)
        · have e : Hid (exN (xn, xs) (yn, xs) l m = false) := by show _ = _; unfold exN; rw [h3]; simp
          have h3' : ((lenF l : Int) != (lenF m : Int)) = true := by simp at h3 ⊢; omega
          clear h2 h3
          go_enter Try.func12, Try.ntmps12
          go_wp2
          go_ret
          exact ⟨by rw [e.out]; rfl, PA.out.low⟩
        · have e : Hid (exN (xn, xs) (yn, xs) l m = exF l m) := by show _ = _; unfold exN; rw [h1, h2, h3]; rfl
          have h3' : lenF m = lenF l := by simp at h3; omega
          have HLen : Hid (lenF m = lenF l) := h3'
          rw [h3'] at PA
          dsimp only
          rw [h3']
          clear h2 h3 h3' hn2
          go_enter Try.func12, Try.ntmps12
          go_wp2
          go_loopw [5, 6] (fun i _ wr => ∃ j : Nat, j ≤ lenF l ∧ i = .int .i64 j ∧ Pair w (xn, xs) a (lenF l) c (yn, xs) b (lenF l) d wr ∧ exF (dropF j l) (dropF j m) = exF l m) (fun i _ _ => lenF l - (intOf i).toNat)
          case atStart => exact ⟨0, Nat.zero_le _, rfl, PA.out, by rw [drop_zero, drop_zero]⟩
          case round =>
            obtain ⟨j, hj, rfl, hP, hex⟩ := hrel
            have HX : Hid (exF (dropF j l) (dropF j m) = exF l m) := hex
            clear hex
            have t2 := hP.l.c2
            by_cases hlt : j < lenF l
            · obtain ⟨b1, o1, rfl, hk1⟩ := HS.out.args.get (by omega)
              obtain ⟨bb, oo, rfl, hkk⟩ := HT.out.args.get (by have := HLen.out; omega)
              obtain ⟨z, a1, c1, l1, kd⟩ := hk1.kid (k := j) hlt
              obtain ⟨z', a2, c2, l2, kd2⟩ := hkk.kid (k := j) (by have := HLen.out; omega)
              have kd' := kd.below hP.low
              have kd2' := kd2.below hP.low
              have HP : Hid (Pair w (xn, xs) (some ⟨b1, o1, none⟩) (lenF l) c (yn, xs) (some ⟨bb, oo, none⟩) (lenF l) d wr) := hP
              have HX2 : Hid (exF l m = (exN z z' l1 l2 && exF (dropF (j + 1) l) (dropF (j + 1) m))) := by
                obtain ⟨B1, O1, s1⟩ := kd.split
                obtain ⟨B2, O2, s2⟩ := kd2.split
                show _ = _
                rw [← HX.out, s1, s2]
                rfl
              obtain ⟨ev, hev⟩ : ∃ ev, exN z z' l1 l2 = ev := ⟨_, rfl⟩
              have hC : Hid (∀ w', Below wr.heap.size wr w' → Calls Try.prog 12 #[.agg #[.string z.1, .int .i64 z.2, .slice a1 (lenF l1) c1], .agg #[.string z'.1, .int .i64 z'.2, .slice a2 (lenF l2) c2]] w' fun e w'' => e = .returned (.bool ev) ∧ Below w'.heap.size w' w'') := fun w' hb => by
                have := IH.out (nodesF l1) (by have := kd.less; omega) z z' l1 l2 a1 a2 c1 c2 w' (Nat.le_refl _) (kd'.at_.below hb) (kd2'.at_.below hb)
                rw [hev] at this
                exact this
              rw [hev] at HX2
              have hne := later_some wr
              have d0 := later_cell hP.l.c2
              have d1 := later_cell hP.r.c2
              have p0 := later_cell kd'.name; have p1 := later_cell kd'.sym; have p2 := later_cell kd'.list
              have q0 := later_cell kd2'.name; have q1 := later_cell kd2'.sym; have q2 := later_cell kd2'.list
              have hk0 : (0 : Int) ≤ (j : Int) := by omega
              have hkn : (j : Int) < (lenF l : Int) := by omega
              clear kd kd2 kd' kd2' hk1 hkk hP hev
              go_wp2_with fail
              refine wp_region_later (by kernel_rfl) (by kernel_rfl) ?_
              repeat (go_big_quiet_step ((refine calls_later (hC.out _ ?_); exact Later.below _)))
              refine wpQuiet_nil ?_
              intro _ hw'
              obtain ⟨b2, hw''⟩ := hw'
              subst hw''
              have HP2 : Hid (Pair w (xn, xs) (some ⟨b1, o1, none⟩) (lenF l) c (yn, xs) (some ⟨bb, oo, none⟩) (lenF l) d b2.now) := HP.out.below b2.below
              clear d0 d1 p0 p1 p2 q0 q1 q2 t2
              cases ev with
              | true =>
                go_wp2
                go_roundw
                case rel => exact ⟨j + 1, by omega, by go_num, HP2.out, by rw [HX2.out]; simp⟩
                case measure => simp [intOf]; omega
              | false =>
                go_wp2
                go_ret
                exact ⟨by rw [e.out, HX2.out]; rfl, HP2.out.low⟩
            · obtain rfl : j = lenF l := by omega
              have hX3 : Hid (exF l m = true) := by show _ = _; rw [← HX.out, drop_end]; rfl
              go_wp2
              go_ret
              exact ⟨by rw [e.out, hX3.out]; rfl, hP.low⟩
set_option maxRecDepth 100000 in
theorem rexact_any (x y : Tn) (a b : Option Addr) (c d : Nat) (w : World) (hS : TmAt w x.1 a c x.2) (hT : TmAt w y.1 b d y.2) :
    Calls Try.prog 12 #[.agg #[.string x.1.1, .int .i64 x.1.2, .slice a (lenF x.2) c], .agg #[.string y.1.1, .int .i64 y.1.2, .slice b (lenF y.2) d]] w fun e w' => e = .returned (.bool (exN x.1 y.1 x.2 y.2)) ∧ Below w.heap.size w w' :=
  rexact_all _ x.1 y.1 x.2 y.2 a b c d w (Nat.le_refl _) hS hT
end Go.Proofs.Ytkcbhbkldcebiaa

namespace Go.Proofs.Ytkcbhbkldcebiaa
open Go.RowKit Go.Deep

/-- How whole ends, and what it does not touch. -/
def WholeFr (B : Nat) (sg : Value) (s : ByteArray) (b : Nat) (tv : Value) (ks : List Kv) (w : World) (res : Except (Int × Nat) (Fo × Nat)) (e : Ending) (w' : World) : Prop := (match res with
    | .error p => e = faultP p.1 p.2
    | .ok (F, k') => ∃ (k : Kv) (tv' : Value), F = .node 0 0 k.x k.l .nil ∧ e = .returned (.agg #[.string k.x.1, .int .i64 k.x.2, .slice k.a (lenF k.l) k.c]) ∧ RdBox w' B sg s k' tv' ∧ Lst b w' tv' (ks ++ [k]) ∧ (∀ q, q < w.heap.size → q ≠ B → some q ≠ tv.ownBlock → w'.heap[q]? = w.heap[q]?)) ∧ Below B w w'
theorem note_leaf2 {w W3 w4 : World} {B b g cap k' N : Nat} {sg tv tv4 : Value} {s : ByteArray} {ks : List Kv} {k z : Kv} {o : Obj} (hF : FrB B w W3) (hL : Lst b w tv ks) (hb : B < b) (hbw : b ≤ w.heap.size) (hm : OwnTm false (fun q => w.heap.size < q) W3 k.x k.a k.c k.l)
    (hgrow : (W3.alloc o).grownBy w4 tv.ownBlock) (hat : tv.ownBlock = some g ∨ g = W3.heap.size + 1) (hown : w4.ownsRow b 28 3 (.slice (some ⟨g, 0, none⟩) (ks.length + 1) cap) (ks.length + 1) (kvCells ks ++ Kv.cells z)) (hbox : RdBox w4 B sg s k' tv4) {W5 : World}
    (hW : W5 = ((((w4.setCell ⟨g, ks.length * 3, none⟩ (.string k.x.1)).setCell ⟨g, ks.length * 3 + 1, none⟩ (.int .i64 k.x.2)).setCell ⟨g, ks.length * 3 + 2, none⟩ (.slice k.a (lenF k.l) k.c)).setCell ⟨B, 3, none⟩ (.slice (some ⟨g, 0, none⟩) (ks.length + 1) cap)) ∨
      W5 = ((((w4.setCell ⟨B, 3, none⟩ (.slice (some ⟨g, 0, none⟩) (ks.length + 1) cap)).setCell ⟨g, ks.length * 3, none⟩ (.string k.x.1)).setCell ⟨g, ks.length * 3 + 1, none⟩ (.int .i64 k.x.2)).setCell ⟨g, ks.length * 3 + 2, none⟩ (.slice k.a (lenF k.l) k.c)))
    (hX : XBox W3 N k.x (.slice k.a (lenF k.l) k.c)) (hZ : XBox W3 w.heap.size (⟨#[]⟩, 0) (.slice none 0 0)) (hN : N < W3.heap.size) (hwN : w.heap.size < N) (hBw : B < w.heap.size) :
    ∃ g' cap', (Value.slice (some ⟨g, 0, none⟩) (ks.length + 1) cap) = .slice (some ⟨g', 0, none⟩) (ks.length + 1) cap' ∧ RdBox W5 B sg s k' (.slice (some ⟨g, 0, none⟩) (ks.length + 1) cap) ∧ LstX w.heap.size b W5 (.slice (some ⟨g, 0, none⟩) (ks.length + 1) cap) (ks ++ [k]) ∧ Below B w W5 ∧ XBox W5 N k.x (.slice k.a (lenF k.l) k.c) ∧ XBox W5 w.heap.size (⟨#[]⟩, 0) (.slice none 0 0) ∧ (∀ q, q < w.heap.size → q ≠ B → some q ≠ tv.ownBlock → W5.heap[q]? = w.heap[q]?) := by
  obtain ⟨g', cap', h1, h2, h3, h4, h5, h6⟩ := note_leaf hF hL hb hbw hm hgrow hat hown hbox hW hX hZ hN hwN hBw
  have hgb : b ≤ g := (owns_cells hown rfl).1
  have hsz := hF.low.size
  refine ⟨g', cap', h1, h2, h3, h4, h5, h6, fun q hq hB hn => ?_⟩
  have hqg : q ≠ g := fun e => by
    rcases hat with h | h
    · exact hn (by rw [h, e])
    · omega
  have h7 : W5.heap[q]? = w4.heap[q]? := by
    rcases hW with rfl | rfl
    · exact (set_far hB _).trans (sets_far3 hqg _ _ _)
    · exact (sets_far3 hqg _ _ _).trans (set_far hB _)
  exact h7.trans (((hgrow.block q (by rw [World.size_alloc]; omega) hn).trans ((alloc_below0 W3 o).block q (by omega))).trans (hF.same q hq hB))

set_option maxRecDepth 100000 in
set_option maxHeartbeats 4000000 in
theorem whole_fr {w0 : World} {B : Nat} {S : Option Addr} {n cap : Nat} {l : List Sym} {s : ByteArray} (hB0 : w0.heap.size ≤ B) (hs : s.size ≤ 800) (hS : SigAt w0 S n l) (b : Nat) (hb : B < b) (k : Nat) (tv : Value) (ks : List Kv) (w : World) (hk : k ≤ s.size) (hlen : ks.length ≤ k) (hB : RdBox w B (.slice S n cap) s k tv) (hL : Below w0.heap.size w0 w) (hT : Lst b w tv ks) (hbw : b ≤ w.heap.size) :
    Calls Try.prog 32 #[.pointer (some ⟨B, 0, none⟩)] w fun e w' => WholeFr B (.slice S n cap) s b tv ks w (rdC s l false k) e w' := by
  have B0 := alloc_below0 w (.cells #[.string ⟨#[]⟩, .int .i64 0, .slice none 0 0] 28)
  have ht := term_all (tv := tv) (cap := cap) hB0 hs hS (s.size - k) k (w.alloc (.cells #[.string ⟨#[]⟩, .int .i64 0, .slice none 0 0] 28)) hk (Nat.le_refl _) (hB.below B0) (hL.trans (B0.mono hL.size))
  go_enter Try.func32, Try.ntmps32
  go_wp2_with fail
  cases hr : rdC s l false k with
  | error p =>
    rw [hr] at ht
    unfold TermEnd at ht
    dsimp only at ht
    unfold faultP at ht
    refine ht.mono ?_
    rintro e w2 ⟨rfl, hf2⟩
    go_wp2
    exact ⟨rfl, by rw [hr]; exact ⟨rfl, ((Fr.of_below B0).trans hf2).below (fun _ hk => hk ▸ Nat.le_refl _) (Nat.le_of_lt hB.lt)⟩⟩
  | ok q =>
    obtain ⟨G, k'⟩ := q
    have hk2 := rdC_to hk hr
    rw [hr] at ht
    unfold TermEnd at ht
    dsimp only at ht
    refine ht.mono ?_
    rintro e w2 ⟨⟨x, m, ta, tc, rfl, rfl, ho2, hrb2⟩, hf2⟩
    go_wp2_with fail
    have hz1 := hf2.low.size
    rw [World.size_alloc] at hz1
    obtain ⟨i0, hi, hz0, hz1', hz2⟩ := info_parts Try.info28
    have B2 := alloc_below0 w2 (.cells #[.string x.1, .int .i64 x.2, .slice ta (lenF m) tc] 28)
    have X3 : Hid (XBox (w2.alloc (.cells #[.string x.1, .int .i64 x.2, .slice ta (lenF m) tc] 28)) w2.heap.size x (.slice ta (lenF m) tc)) := World.alloc_heap_new w2 _
    have Z0 : XBox (w.alloc (.cells #[.string ⟨#[]⟩, .int .i64 0, .slice none 0 0] 28)) w.heap.size (⟨#[]⟩, 0) (.slice none 0 0) := World.alloc_heap_new w _
    have Z2 : XBox w2 w.heap.size (⟨#[]⟩, 0) (.slice none 0 0) := (hf2.same w.heap.size (by rw [World.size_alloc]; omega) (by have := hB.lt; omega)).trans Z0
    have Z3 := hid (Z2.below B2)
    have R3 := hid (hrb2.below B2)
    have F3 : Hid (FrB B w (w2.alloc (.cells #[.string x.1, .int .i64 x.2, .slice ta (lenF m) tc] 28))) := hid (((Fr.of_below B0).trans hf2).trans (Fr.of_below B2))
    have O3 : Hid (OwnTm false (fun q => w.heap.size < q) (w2.alloc (.cells #[.string x.1, .int .i64 x.2, .slice ta (lenF m) tc] 28)) x ta tc m) := hid ((ho2.mono (fun q _ hq => by rw [World.size_alloc] at hq; omega)).below B2)
    have LT := hid hT
    obtain ⟨a0, c0, htv, hcc, hcm, hrow0, hnone, hsome⟩ := row_of_owns hT.row
    have L3 : Hid (Lst b (w2.alloc (.cells #[.string x.1, .int .i64 x.2, .slice ta (lenF m) tc] 28)) tv ks) := hid (hT.fr F3.out hb)
    have hs3 : Hid ((w2.alloc (.cells #[.string x.1, .int .i64 x.2, .slice ta (lenF m) tc] 28)).heap.size = w2.heap.size + 1) := by show _ = _; rw [World.size_alloc]
    have hbB := hB.lt
    clear ht hf2 hrb2 ho2 Z0 Z2 B2 B0 hT hL hrow0 hnone hsome hB hcc hcm
    subst htv
    have HW : Hid (w.heap.size < w2.heap.size) := by show _ < _; omega
    have q3 := R3.out.c3; have f3 := R3.out.f (i := 3)
    have x0 := X3.out.c0; have x1 := X3.out.c1; have x2 := X3.out.c2
    generalize w2.alloc (.cells #[.string x.1, .int .i64 x.2, .slice ta (lenF m) tc] 28) = W3 at X3 Z3 R3 F3 O3 L3 hs3 q3 f3 x0 x1 x2 ⊢
    have BZ := alloc_below0 W3 (.cells #[.string ⟨#[]⟩, .int .i64 0, .slice none 0 0] 28)
    have x0' := (X3.out.below BZ).c0; have x1' := (X3.out.below BZ).c1; have x2' := (X3.out.below BZ).c2; have q3' := (R3.out.below BZ).c3
    clear BZ
    have hidx : ((ks.length : Nat) : Int) < (ks.length : Int) + 1 := by omega
    go_cut [13] (fun v wc => ∃ g cap', v = .slice (some ⟨g, 0, none⟩) (ks.length + 1) cap' ∧ RdBox wc B (.slice S n cap) s k' v ∧ LstX w.heap.size b wc v (ks ++ [⟨x, m, ta, tc⟩]) ∧ Below B w wc ∧ XBox wc w2.heap.size x (.slice ta (lenF m) tc) ∧ XBox wc w.heap.size (⟨#[]⟩, 0) (.slice none 0 0) ∧ (∀ q, q < w.heap.size → q ≠ B → some q ≠ (Value.slice a0 ks.length c0).ownBlock → wc.heap[q]? = w.heap[q]?))
    case first =>
      go_region_law (refine step_append_lies _ (by rfl) (.tmp 9) (.tmp 12) 26 (by rfl) b 28 i0 _ 3 48 Try.underlying26 hi hz0 hz1' hz2 rfl (by decide) (.slice a0 ks.length c0) ks.length (kvCells ks) (by rfl) (owns_below L3.out.row ((Below.refl _ W3).alloc (Nat.le_refl _) _).drew) ⟨W3.heap.size, 0, none⟩ 1 1 (Kv.cells ⟨(⟨#[]⟩, 0), .nil, none, 0⟩) (by rfl) rfl (World.news_of_block (heap_alloc_new W3 _)) (kv_one _) (by decide) (by unfold maxLen; omega) (by omega) (by simp; have := hs3.out; have := HW.out; omega) _ rfl ?_; intro g4 cap4 w4 hown4 hgrow4 hat4 hlt4; have hg4 : b ≤ g4 := (owns_cells hown4 rfl).1; have hgB : ¬ g4 = B := (by omega); have hBg : ¬ B = g4 := fun e => hgB e.symm; have R4 : Hid (RdBox w4 B (.slice S n cap) s k' (.slice a0 ks.length c0)) := hid ((hgrow4.block B (by have := hs3.out; have := HW.out; simp; omega) (fun e => by have := (owns_cells L3.out.row e.symm).1; omega)).trans (R3.out.below (alloc_below0 W3 _).drew)); have r3 := R4.out.c3; have rf3 := R4.out.f (i := 3); have z0 : w4.cell? ⟨g4, ks.length * 3, none⟩ = some (.string ⟨#[]⟩) := owns_slot hown4 0 (by simp [Kv.cells]); have z1 : w4.cell? ⟨g4, ks.length * 3 + 1, none⟩ = some (.int .i64 0) := owns_slot hown4 1 (by simp [Kv.cells]); have z2 : w4.cell? ⟨g4, ks.length * 3 + 2, none⟩ = some (.slice none 0 0) := owns_slot hown4 2 (by simp [Kv.cells]); have y0 := hown4.frozenAt (ks.length * 3); have y1 := hown4.frozenAt (ks.length * 3 + 1); have y2 := hown4.frozenAt (ks.length * 3 + 2); have HO4 := hid hown4; have HG4 := hid (undrew hgrow4); have HA4 := hid hat4; clear hown4 hgrow4 hat4)
      all_goals (go_wp2_with fail; go_meet)
      all_goals
        refine note_leaf2 (k := ⟨x, m, ta, tc⟩) F3.out LT.out hb hbw O3.out HG4.out (HA4.out.imp id (fun e => by simpa using e)) HO4.out R4.out ?_ X3.out Z3.out (by have := hs3.out; omega) HW.out hbB
        first
          | (exact .inl (by with_reducible rfl))
          | (exact .inr (by with_reducible rfl))
    case rest =>
      obtain ⟨g, cap', rfl, hR, hLs, hlow, hX, hZ, hrst⟩ := hcut
      have HRST := hid hrst
      have HR := hid hR; have HLs := hid hLs; have HL := hid hlow; have HZ := hid hZ
      have u0 := hX.c0; have u1 := hX.c1; have u2 := hX.c2
      have z0 := hZ.c0; have z1 := hZ.c1; have z2 := hZ.c2
      have y0 := hZ.f (k := 0); have y1 := hZ.f (k := 1); have y2 := hZ.f (k := 2)
      clear hR hLs hlow hZ hX hrst X3 Z3 R3 F3 O3 L3 LT
      go_wp2
      refine bodyPost_ret (results_cell_row rfl _ _ w.heap.size 28 #[.string x.1, .int .i64 x.2, .slice ta (lenF m) tc] (0, 0) _ rfl (HZ.out.all (x := x) _) Try.underlying28 rfl Try.size28) rfl ?_
      exact ⟨⟨⟨x, m, ta, tc⟩, _, rfl, rfl, (sets_far (by omega) _ _ _).trans HR.out, HLs.out.sets _ _ _, fun q hq hB hn => (sets_far (by omega) _ _ _).trans (HRST.out q hq hB hn)⟩, sets_below HL.out (by omega) _ _ _⟩
end Go.Proofs.Ytkcbhbkldcebiaa

namespace Go.Proofs.Ytkcbhbkldcebiaa
open Go.RowKit Go.Deep

/-- An equation's box. -/
def EBox (W : World) (B : Nat) (x : ByteArray × Int) (v : Value) (y : ByteArray × Int) (u : Value) : Prop := W.heap[B]? = some (.cells #[.string x.1, .int .i64 x.2, v, .string y.1, .int .i64 y.2, u] 35 (0, 0))
theorem EBox.c {W : World} {B : Nat} {x y : ByteArray × Int} {v u : Value} (h : EBox W B x v y u) (i : Nat) (hi : i < 6 := by decide) : W.cell? ⟨B, i, none⟩ = some ((#[.string x.1, .int .i64 x.2, v, .string y.1, .int .i64 y.2, u] : Array Value)[i]'hi) := by
  simp [World.cell?, show W.heap[B]? = _ from h]
theorem EBox.f {W : World} {B : Nat} {x y : ByteArray × Int} {v u : Value} (h : EBox W B x v y u) (i : Nat) : W.frozen? ⟨B, i, none⟩ = false := by simp [World.frozen?, show W.heap[B]? = _ from h]
/-- Two terms with the sign between, as they are read. -/
def eqC (s : ByteArray) (l : List Sym) (k : Nat) : Except (Int × Nat) (Tn × Tn × Nat) := match rdC s l false k with
  | .error e => .error e
  | .ok (.nil, _) => .error (0, 0)
  | .ok (.node _ _ x m _, k1) => match wantP s k1 6 with
    | .error e => .error e
    | .ok r => match rdC s l false r.to with
      | .error e => .error e
      | .ok (.nil, _) => .error (0, 0)
      | .ok (.node _ _ y u _, k2) => .ok ((x, m), (y, u), k2)
/-- How equation ends. -/
def EqEnd (B : Nat) (sg : Value) (s : ByteArray) (w : World) (res : Except (Int × Nat) (Tn × Tn × Nat)) (e : Ending) (w' : World) : Prop := (match res with
    | .error p => e = faultP p.1 p.2
    | .ok (t, u, k') => ∃ (k j : Kv) (tv' : Value), t = k.tn ∧ u = j.tn ∧ e = .returned (.agg #[.string k.x.1, .int .i64 k.x.2, .slice k.a (lenF k.l) k.c, .string j.x.1, .int .i64 j.x.2, .slice j.a (lenF j.l) j.c]) ∧ RdBox w' B sg s k' tv' ∧ Lst (w.heap.size + 1) w' tv' [k, j] ∧ k' ≤ s.size) ∧ Below B w w'
theorem ebox_all {W : World} {B : Nat} {x y : ByteArray × Int} {v u : Value} (h : EBox W B x v y u) (x' y' : ByteArray × Int) (v' u' : Value) :
    EBox ((((((W.setCell ⟨B, 0, none⟩ (.string x'.1)).setCell ⟨B, 1, none⟩ (.int .i64 x'.2)).setCell ⟨B, 2, none⟩ v').setCell ⟨B, 3, none⟩ (.string y'.1)).setCell ⟨B, 4, none⟩ (.int .i64 y'.2)).setCell ⟨B, 5, none⟩ u') B x' v' y' u' := by
  have := block_set (k := 5) (block_set (k := 4) (block_set (k := 3) (block_set (k := 2) (block_set (k := 1) (block_set (k := 0) h (.string x'.1)) (.int .i64 x'.2)) v') (.string y'.1)) (.int .i64 y'.2)) u'
  exact this
theorem sets_far6 {W : World} {B q : Nat} (h : q ≠ B) (a b c d e f : Value) : ((((((W.setCell ⟨B, 0, none⟩ a).setCell ⟨B, 1, none⟩ b).setCell ⟨B, 2, none⟩ c).setCell ⟨B, 3, none⟩ d).setCell ⟨B, 4, none⟩ e).setCell ⟨B, 5, none⟩ f).heap[q]? = W.heap[q]? :=
  (set_far h f).trans ((set_far h e).trans ((set_far h d).trans (sets_far h a b c)))
theorem sets_low6 {n0 : Nat} {w W : World} {B : Nat} (hb : Below n0 w W) (h : n0 ≤ B) (a b c d e f : Value) : Below n0 w ((((((W.setCell ⟨B, 0, none⟩ a).setCell ⟨B, 1, none⟩ b).setCell ⟨B, 2, none⟩ c).setCell ⟨B, 3, none⟩ d).setCell ⟨B, 4, none⟩ e).setCell ⟨B, 5, none⟩ f) :=
  set_low (set_low (set_low (sets_below hb h a b c) h d) h e) h f
/-- A list under way that is not in this block. -/
theorem Lst.far {N B : Nat} {W W' : World} {v : Value} {ks : List Kv} (h : Lst B W v ks) (hv : v.ownBlock ≠ some N) (ho : ∀ k ∈ ks, OwnTm false (fun q => (B ≤ q ∧ some q ≠ v.ownBlock) ∧ q ≠ N) W k.x k.a k.c k.l) (hk : ∀ q, q ≠ N → W'.heap[q]? = W.heap[q]?) : Lst B W' v ks :=
  ⟨owns_block h.row (fun g hg => hk g (fun e => hv (by rw [hg, e]))), fun k hk' => ((ho k hk').keep (fun q hq _ => hk q hq.2)).mono (fun q _ hq => hq.1)⟩

set_option maxRecDepth 100000 in
set_option maxHeartbeats 4000000 in
theorem eq_rd {w0 : World} {B : Nat} {S : Option Addr} {n cap : Nat} {l : List Sym} {s : ByteArray} (hB0 : w0.heap.size ≤ B) (hs : s.size ≤ 800) (hS : SigAt w0 S n l) (w : World) (hB : RdBox w B (.slice S n cap) s 0 (.slice none 0 0)) (hL : Below w0.heap.size w0 w) :
    Calls Try.prog 38 #[.pointer (some ⟨B, 0, none⟩)] w fun e w' => EqEnd B (.slice S n cap) s w (eqC s l 0) e w' := by
  have B0 := alloc_below0 w (.cells #[.string ⟨#[]⟩, .int .i64 0, .slice none 0 0, .string ⟨#[]⟩, .int .i64 0, .slice none 0 0] 35)
  have E0 : EBox (w.alloc (.cells #[.string ⟨#[]⟩, .int .i64 0, .slice none 0 0, .string ⟨#[]⟩, .int .i64 0, .slice none 0 0] 35)) w.heap.size (⟨#[]⟩, 0) (.slice none 0 0) (⟨#[]⟩, 0) (.slice none 0 0) := World.alloc_heap_new w _
  have hBw := hB.lt
  have hs0 : (w.alloc (.cells #[.string ⟨#[]⟩, .int .i64 0, .slice none 0 0, .string ⟨#[]⟩, .int .i64 0, .slice none 0 0] 35)).heap.size = w.heap.size + 1 := World.size_alloc _ _
  have hc := whole_fr (cap := cap) hB0 hs hS (w.heap.size + 1) (by omega) 0 (.slice none 0 0) [] _ (Nat.zero_le _) (Nat.zero_le _) (hB.below B0) (hL.trans (B0.mono hL.size)) (Lst.nil _ _) (Nat.le_of_eq hs0.symm)
  have HC := hid hc; have HE := hid E0
  have HB0 : Hid (Below B w (w.alloc (.cells #[.string ⟨#[]⟩, .int .i64 0, .slice none 0 0, .string ⟨#[]⟩, .int .i64 0, .slice none 0 0] 35))) := hid (B0.mono (by omega))
  have HL := hid hL; have HS := hid hS
  have hsm : s.size ≤ maxLen := by unfold maxLen; omega
  obtain ⟨res, hres⟩ : ∃ res, eqC s l 0 = res := ⟨_, rfl⟩
  rw [hres]
  unfold eqC at hres
  clear hc B0 E0 hB hL hS
  go_enter Try.func38, Try.ntmps38
  go_wp2_with fail
  generalize w.alloc (.cells #[.string ⟨#[]⟩, .int .i64 0, .slice none 0 0, .string ⟨#[]⟩, .int .i64 0, .slice none 0 0] 35) = V0 at HC HE HB0 hs0 ⊢
  have hc := HC.out
  unfold WholeFr at hc
  cases hr : rdC s l false 0 with
  | error q =>
    rw [hr] at hc hres
    dsimp only at hc hres
    unfold faultP at hc
    refine hc.mono ?_
    rintro e w2 ⟨rfl, hb2⟩
    go_wp2
    exact ⟨rfl, by rw [← hres]; exact ⟨rfl, HB0.out.trans hb2⟩⟩
  | ok qq =>
    obtain ⟨F, k1⟩ := qq
    have hk1 := rdC_to (Nat.zero_le _) hr
    rw [hr] at hc hres
    dsimp only at hc
    refine hc.mono ?_
    rintro e w2 ⟨⟨⟨x, m, ta, tc⟩, tv, rfl, rfl, hrb2, hls2, hfr2⟩, hb2⟩
    dsimp only at hres ⊢
    have hz2 := hb2.size
    have B2 := alloc_below0 w2 (.cells #[.string x.1, .int .i64 x.2, .slice ta (lenF m) tc] 28)
    have T2 : XBox (w2.alloc (.cells #[.string x.1, .int .i64 x.2, .slice ta (lenF m) tc] 28)) w2.heap.size x (.slice ta (lenF m) tc) := World.alloc_heap_new w2 _
    have R2 := hrb2.below B2
    have L2 := hls2.below B2
    have E2 : EBox (w2.alloc (.cells #[.string x.1, .int .i64 x.2, .slice ta (lenF m) tc] 28)) w.heap.size (⟨#[]⟩, 0) (.slice none 0 0) (⟨#[]⟩, 0) (.slice none 0 0) := (B2.block _ (by omega)).trans ((hfr2 w.heap.size (by omega) (by omega) (by simp [Value.ownBlock])).trans HE.out)
    have hown2 : ∀ g, tv.ownBlock = some g → g < w2.heap.size ∧ w.heap.size + 1 ≤ g := fun g hg => ⟨hls2.lt hg, (owns_cells hls2.row hg).1⟩
    have HB2 : Hid (Below B w (w2.alloc (.cells #[.string x.1, .int .i64 x.2, .slice ta (lenF m) tc] 28))) := hid ((HB0.out.trans hb2).trans (B2.mono (by omega)))
    have hwt := want_rd B (.slice S n cap) tv s k1 6 _ R2 hsm hk1.2
    have HT2 := hid T2; have HE2 := hid E2; have HL2 := hid L2; have HO2 := hid hown2
    have HWT := hid hwt
    have HRS := hid hres
    clear hc hres hrb2 hls2 hfr2 hb2 B2 T2 R2 L2 E2 hown2 hwt HC HE HB0
    go_wp2_with fail
    generalize w2.alloc (.cells #[.string x.1, .int .i64 x.2, .slice ta (lenF m) tc] 28) = V2 at HT2 HE2 HL2 HB2 HWT ⊢
    have hwt := HWT.out
    cases hw : wantP s k1 6 with
    | error q =>
      have hres := HRS.out
      rw [hw] at hwt hres
      dsimp only at hwt hres
      unfold faultP at hwt
      refine hwt.mono ?_
      rintro e w3 ⟨rfl, hf3⟩
      go_wp2
      exact ⟨rfl, by rw [← hres]; exact ⟨rfl, HB2.out.trans (hf3.below (fun _ hk => hk ▸ Nat.le_refl _) (by have := HE2.out; have := HT2.out.lt; omega))⟩⟩
    | ok r =>
      have hres := HRS.out
      have hkr := want_ok hk1.2 hw
      rw [hw] at hwt hres
      dsimp only at hwt hres
      refine hwt.mono ?_
      rintro e w3 ⟨⟨rfl, hrb3⟩, hf3⟩
      have hV2 : w2.heap.size < V2.heap.size := HT2.out.lt
      have hz3 := hf3.low.size
      have T3' : XBox w3 w2.heap.size x (.slice ta (lenF m) tc) := (hf3.same _ hV2 (by omega)).trans HT2.out
      have E3' : EBox w3 w.heap.size (⟨#[]⟩, 0) (.slice none 0 0) (⟨#[]⟩, 0) (.slice none 0 0) := (hf3.same _ (by omega) (by omega)).trans HE2.out
      have L3' : Lst (w.heap.size + 1) w3 tv [⟨x, m, ta, tc⟩] := HL2.out.fr hf3 (by omega)
      have L3d : Lst (w.heap.size + 1) w3.drew tv [⟨x, m, ta, tc⟩] := ⟨L3'.row, fun k hk => OwnTm.keep (w := w3) (w' := w3.drew) (fun _ _ _ => rfl) (L3'.own k hk)⟩
      have B3 : Below B w w3 := HB2.out.trans (hf3.below (fun _ hk => hk ▸ Nat.le_refl _) (by omega))
      have hc2 := whole_fr (cap := cap) hB0 hs HS.out (w.heap.size + 1) (by omega) r.to tv [⟨x, m, ta, tc⟩] w3.drew hkr.2 (by simp; omega) hrb3 (HL.out.trans (B3.mono hB0)).drew L3d (by show _ ≤ w3.heap.size; omega)
      have hwz : w.heap.size < w3.heap.size := by omega
      have hwB : w.heap.size ≠ B := by omega
      have hwo : some w.heap.size ≠ tv.ownBlock := fun e => by have := (HO2.out _ e.symm).2; omega
      have htz : w2.heap.size < w3.heap.size := by omega
      have htB : w2.heap.size ≠ B := by omega
      have hto : some w2.heap.size ≠ tv.ownBlock := fun e => by have := (HO2.out _ e.symm).1; omega
      have HC2 := hid hc2; have T3 := hid T3'; have E3 := hid E3'; have HB3 := hid B3
      have HRS3 := hid hres
      have t0 := T3'.c0; have t1 := T3'.c1; have t2 := T3'.c2
      clear hwt hres hc2 hrb3 hf3 T3' E3' L3' L3d B3 HT2 HE2 HL2 HB2 HWT HRS
      go_wp2_with fail
      have hc2 := HC2.out
      unfold WholeFr at hc2
      cases hr2 : rdC s l false r.to with
      | error q =>
        have hres := HRS3.out
        rw [hr2] at hc2 hres
        dsimp only at hc2 hres
        unfold faultP at hc2
        have HC3 := hid hc2
        have HRS4 := hid hres
        clear hc2 hres HC2
        go_region_dies
        all_goals (try go_wp2_with fail)
        all_goals (refine HC3.out.mono ?_; rintro e w4 ⟨rfl, hb4⟩; exact ⟨rfl, by rw [← HRS4.out]; exact ⟨rfl, HB3.out.drew.trans hb4⟩⟩)
      | ok qq =>
        obtain ⟨G, k2⟩ := qq
        have hk2 := rdC_to hkr.2 hr2
        have hres := HRS3.out
        rw [hr2] at hc2 hres
        dsimp only at hc2
        have HC3 := hid hc2
        have HRS4 := hid hres
        clear hc2 hres HC2
        go_region_law ((first
          | (go_simp; go_wp2_with (go_at_call 32; refine HC3.out.mono ?_; rintro e w4 ⟨⟨⟨y, u, ua, uc⟩, tv4, rfl, rfl, hrb4, hls4, hfr4⟩, hb4⟩; have E4 : EBox w4 w.heap.size (⟨#[]⟩, 0) (.slice none 0 0) (⟨#[]⟩, 0) (.slice none 0 0) := (hfr4 w.heap.size hwz hwB hwo).trans E3.out; have T4 : XBox w4 w2.heap.size x (.slice ta (lenF m) tc) := (hfr4 w2.heap.size htz htB hto).trans T3.out; have t4a := T4.c0; have t4b := T4.c1; have t4c := T4.c2; have c0 := E4.c 0; have c1 := E4.c 1; have c2 := E4.c 2; have c3 := E4.c 3; have c4 := E4.c 4; have c5 := E4.c 5; have f0 := E4.f 0; have f1 := E4.f 1; have f2 := E4.f 2; have f3 := E4.f 3; have f4 := E4.f 4; have f5 := E4.f 5; have HE4 := hid E4; have HR4 := hid hrb4; have HL4 := hid hls4; have HB4 := hid hb4; clear E4 T4 hrb4 hls4 hfr4 hb4))
          | fail))
        all_goals
          go_wp2
          refine bodyPost_ret (results_cell_row rfl _ _ w.heap.size 35 #[.string x.1, .int .i64 x.2, .slice ta (lenF m) tc, .string y.1, .int .i64 y.2, .slice ua (lenF u) uc] (0, 0) _ rfl (ebox_all HE4.out x y (.slice ta (lenF m) tc) (.slice ua (lenF u) uc)) Try.underlying35 rfl (by kernel_rfl)) rfl ?_
          rw [← HRS4.out]
          refine ⟨⟨⟨x, m, ta, tc⟩, ⟨y, u, ua, uc⟩, _, rfl, rfl, rfl, (sets_far6 (by omega) _ _ _ _ _ _).trans HR4.out, ?_, hk2.2⟩, sets_low6 (HB3.out.drew.trans HB4.out) (by omega) _ _ _ _ _ _⟩
          have hl := HL4.out
          exact ⟨owns_block hl.row (fun g hg => sets_far6 (by have := (owns_cells hl.row hg).1; omega) _ _ _ _ _ _), fun k hk => (hl.own k hk).keep (fun q hq _ => sets_far6 (by have := hq.1; omega) _ _ _ _ _ _)⟩
end Go.Proofs.Ytkcbhbkldcebiaa

namespace Go.Proofs.Ytkcbhbkldcebiaa
open Go.RowKit Go.Deep

theorem EBox.lt {W : World} {B : Nat} {x y : ByteArray × Int} {v u : Value} (h : EBox W B x v y u) : B < W.heap.size := (Array.getElem?_eq_some_iff.1 h).1
theorem EBox.below {W W' : World} {B : Nat} {x y : ByteArray × Int} {v u : Value} (h : EBox W B x v y u) (hb : Below W.heap.size W W') : EBox W' B x v y u := (hb.block B h.lt).trans h

set_option maxRecDepth 100000 in
set_option maxHeartbeats 1000000 in
theorem catchE_fault (p q : Nat) (e : Int) (at_ : Nat) (x y : Int) (older : List PanicEntry) (w : World) (hpq : p ≠ q) (hp : w.cell? ⟨p, 0, none⟩ = some (.int .i64 x)) (hq : w.cell? ⟨q, 0, none⟩ = some (.int .i64 y)) (fp : w.frozen? ⟨p, 0, none⟩ = false) (fq : w.frozen? ⟨q, 0, none⟩ = false) :
    CallsD Try.prog 59 #[.pointer (some ⟨p, 0, none⟩), .pointer (some ⟨q, 0, none⟩)] (.panicking ({ v := .iface 96 (.agg #[.int .i64 e, .int .i64 at_]), recovered := false } :: older)) w fun r u w' =>
      r = .returned (.tuple #[]) ∧ u = .panicking ({ v := .iface 96 (.agg #[.int .i64 e, .int .i64 at_]), recovered := true } :: older) ∧ w'.cell? ⟨p, 0, none⟩ = some (.int .i64 e) ∧ w'.cell? ⟨q, 0, none⟩ = some (.int .i64 at_) ∧ Fr (fun k => k = p ∨ k = q) w w' := by
  refine callsD_of_wpS Try.func59 rfl fun c₀ cs hu => ?_
  apply wpS_seq
  apply wpS_region
  simp [wpOpsS, go_sem, recoverD, hu, Try.ntmps59, Exit.thenS]
  refine wpS_of_wp ?_
  change Code.wp _ _ _ { tmps := #[.pointer (some ⟨p, 0, none⟩), .pointer (some ⟨q, 0, none⟩), .iface 96 (.agg #[.int .i64 e, .int .i64 at_]), undef, .iface 96 (.agg #[.int .i64 e, .int .i64 at_]), undef, undef, undef, undef, undef, undef, undef, undef], defers := [] } _
  have hta : ∀ (v : Value) (w : World), (Instr.typeAssert (.iface 96 v) 20 96 false).run Try.prog w = .ok v w := fun v w => by kernel_rfl
  have B0 := alloc_below0 w (.cells #[.int .i64 e, .int .i64 at_] 96)
  have C0 : (w.alloc (.cells #[.int .i64 e, .int .i64 at_] 96)).heap[w.heap.size]? = some (.cells #[.int .i64 e, .int .i64 at_] 96 (0, 0)) := World.alloc_heap_new w _
  have k0 : (w.alloc (.cells #[.int .i64 e, .int .i64 at_] 96)).cell? ⟨w.heap.size, 0, none⟩ = some (.int .i64 e) := cell_box C0 rfl
  have k1 : (w.alloc (.cells #[.int .i64 e, .int .i64 at_] 96)).cell? ⟨w.heap.size, 1, none⟩ = some (.int .i64 at_) := cell_box C0 rfl
  have hp' := below_cell B0 _ _ hp; have hq' := below_cell B0 _ _ hq
  have hpl : p < w.heap.size := World.block_lt_of_cell? w _ hp
  have hql : q < w.heap.size := World.block_lt_of_cell? w _ hq
  have fp' : (w.alloc (.cells #[.int .i64 e, .int .i64 at_] 96)).frozen? ⟨p, 0, none⟩ = false := (World.frozen?_of_block (B0.block p hpl)).trans fp
  have fq' : (w.alloc (.cells #[.int .i64 e, .int .i64 at_] 96)).frozen? ⟨q, 0, none⟩ = false := (World.frozen?_of_block (B0.block q hql)).trans fq
  have hqp : ¬ q = p := fun h => hpq h.symm
  have n1 : ¬ w.heap.size = p := by omega
  have n2 : ¬ w.heap.size = q := by omega
  have n3 : ¬ p = w.heap.size := by omega
  have n4 : ¬ q = w.heap.size := by omega
  have FB := hid (Fr.of_below (A := fun k => k = p ∨ k = q) B0)
  clear B0 C0
  go_wp2
  generalize w.alloc (.cells #[.int .i64 e, .int .i64 at_] 96) = V0 at FB k0 k1 hp' hq' fp' fq' ⊢
  go_region
  all_goals
    have E1 : ((V0.setCell ⟨p, 0, none⟩ (.int .i64 e)).setCell ⟨q, 0, none⟩ (.int .i64 at_)).cell? ⟨p, 0, none⟩ = some (.int .i64 e) := (World.cell?_of_block (a := ⟨p, 0, none⟩) (set_far hpq _)).trans (World.cell?_setCell_same _ _ _ hp')
    have E2 : ((V0.setCell ⟨p, 0, none⟩ (.int .i64 e)).setCell ⟨q, 0, none⟩ (.int .i64 at_)).cell? ⟨q, 0, none⟩ = some (.int .i64 at_) := World.cell?_setCell_same _ _ _ ((World.cell?_of_block (a := ⟨q, 0, none⟩) (set_far hqp _)).trans hq')
    have E3 : Fr (fun k => k = p ∨ k = q) w (((V0.setCell ⟨p, 0, none⟩ (.int .i64 e)).setCell ⟨q, 0, none⟩ (.int .i64 at_)).drew) := FB.out.trans ⟨(((Below.refl _ V0).setCell (p := ⟨p, 0, none⟩) (Nat.zero_le _) _).setCell (p := ⟨q, 0, none⟩) (Nat.zero_le _) _).drew, fun k hk hn => (set_far (fun h => hn (.inr h)) _).trans (set_far (fun h => hn (.inl h)) _)⟩
    exact ⟨rfl, _, rfl, _, results_none rfl _ _ _, rfl, rfl, E1, E2, E3⟩

set_option maxRecDepth 100000 in
theorem catchE_none (p q : Nat) (w : World) :
    CallsD Try.prog 59 #[.pointer (some ⟨p, 0, none⟩), .pointer (some ⟨q, 0, none⟩)] .returning w fun r u w' => r = .returned (.tuple #[]) ∧ u = .returning ∧ w' = w := by
  refine callsD_of_wpS Try.func59 rfl fun c₀ cs hu => ?_
  apply wpS_seq
  apply wpS_region
  simp [wpOpsS, go_sem, recoverD, hu, Try.ntmps59, Exit.thenS]
  refine wpS_of_wp ?_
  change Code.wp _ _ _ { tmps := #[.pointer (some ⟨p, 0, none⟩), .pointer (some ⟨q, 0, none⟩), .nilIface, undef, .nilIface, undef, undef, undef, undef, undef, undef, undef, undef], defers := [] } _
  go_wp2
  cases c₀
  simp_all [bodyPostS, results, Try.results59]

/-- The three results' boxes. -/
theorem threeE_new (w : World) : ∃ V, (((w.alloc (.cells #[.string ⟨#[]⟩, .int .i64 0, .slice none 0 0, .string ⟨#[]⟩, .int .i64 0, .slice none 0 0] 35)).alloc (.cells #[.int .i64 0] 29)).alloc (.cells #[.int .i64 0] 3)) = V ∧ (V.cell? ⟨w.heap.size + 1, 0, none⟩ = some (.int .i64 0) ∧ V.frozen? ⟨w.heap.size + 1, 0, none⟩ = false) ∧ (V.cell? ⟨w.heap.size + 1 + 1, 0, none⟩ = some (.int .i64 0) ∧ V.frozen? ⟨w.heap.size + 1 + 1, 0, none⟩ = false) ∧ EBox V w.heap.size (⟨#[]⟩, 0) (.slice none 0 0) (⟨#[]⟩, 0) (.slice none 0 0) ∧ Below w.heap.size w V ∧ V.heap.size = w.heap.size + 3 := by
  have X1 : EBox (w.alloc (.cells #[.string ⟨#[]⟩, .int .i64 0, .slice none 0 0, .string ⟨#[]⟩, .int .i64 0, .slice none 0 0] 35)) w.heap.size (⟨#[]⟩, 0) (.slice none 0 0) (⟨#[]⟩, 0) (.slice none 0 0) := World.alloc_heap_new w _
  have h2 := World.alloc_heap_new (w.alloc (.cells #[.string ⟨#[]⟩, .int .i64 0, .slice none 0 0, .string ⟨#[]⟩, .int .i64 0, .slice none 0 0] 35)) (.cells #[.int .i64 0] 29)
  have h3 := World.alloc_heap_new ((w.alloc (.cells #[.string ⟨#[]⟩, .int .i64 0, .slice none 0 0, .string ⟨#[]⟩, .int .i64 0, .slice none 0 0] 35)).alloc (.cells #[.int .i64 0] 29)) (.cells #[.int .i64 0] 3)
  have b1 := alloc_below0 w (.cells #[.string ⟨#[]⟩, .int .i64 0, .slice none 0 0, .string ⟨#[]⟩, .int .i64 0, .slice none 0 0] 35)
  have b2 := alloc_below0 (w.alloc (.cells #[.string ⟨#[]⟩, .int .i64 0, .slice none 0 0, .string ⟨#[]⟩, .int .i64 0, .slice none 0 0] 35)) (.cells #[.int .i64 0] 29)
  have b3 := alloc_below0 ((w.alloc (.cells #[.string ⟨#[]⟩, .int .i64 0, .slice none 0 0, .string ⟨#[]⟩, .int .i64 0, .slice none 0 0] 35)).alloc (.cells #[.int .i64 0] 29)) (.cells #[.int .i64 0] 3)
  have h2' := (b3.block _ (Nat.lt_of_lt_of_eq (Nat.lt_succ_self _) (World.size_alloc _ _).symm)).trans h2
  rw [World.size_alloc] at h2 h2' h3
  rw [World.size_alloc] at h3
  refine ⟨_, rfl, ⟨cell_box h2' rfl, frozen_box h2'⟩, ⟨cell_box h3 rfl, frozen_box h3⟩, (X1.below b2).below b3, (b1.trans (b2.mono b1.size)).trans (b3.mono (b1.trans (b2.mono b1.size)).size), by rw [World.size_alloc, World.size_alloc, World.size_alloc]⟩
/-- The three results' boxes stand. -/
structure Kept3E (w W : World) : Prop where
  p : W.cell? ⟨w.heap.size + 1, 0, none⟩ = some (.int .i64 0) ∧ W.frozen? ⟨w.heap.size + 1, 0, none⟩ = false
  q : W.cell? ⟨w.heap.size + 1 + 1, 0, none⟩ = some (.int .i64 0) ∧ W.frozen? ⟨w.heap.size + 1 + 1, 0, none⟩ = false
  r : EBox W w.heap.size (⟨#[]⟩, 0) (.slice none 0 0) (⟨#[]⟩, 0) (.slice none 0 0)
  low : Below w.heap.size w W
theorem Kept3E.of {w V W : World} {o : Obj} (h1 : V.cell? ⟨w.heap.size + 1, 0, none⟩ = some (.int .i64 0) ∧ V.frozen? ⟨w.heap.size + 1, 0, none⟩ = false) (h2 : V.cell? ⟨w.heap.size + 1 + 1, 0, none⟩ = some (.int .i64 0) ∧ V.frozen? ⟨w.heap.size + 1 + 1, 0, none⟩ = false) (h3 : EBox V w.heap.size (⟨#[]⟩, 0) (.slice none 0 0) (⟨#[]⟩, 0) (.slice none 0 0)) (h4 : Below w.heap.size w V) (hs : V.heap.size = w.heap.size + 3)
    (B1 : Below V.heap.size V (V.alloc o)) (hW : Below (w.heap.size + 3) (V.alloc o) W) : Kept3E w W := by
  have hb : ∀ k, k < w.heap.size + 3 → W.heap[k]? = V.heap[k]? := fun k hk => (hW.block k hk).trans (B1.block k (by omega))
  exact ⟨⟨(World.cell?_of_block (hb (w.heap.size + 1) (by omega))).trans h1.1, (World.frozen?_of_block (hb (w.heap.size + 1) (by omega))).trans h1.2⟩, ⟨(World.cell?_of_block (hb (w.heap.size + 1 + 1) (by omega))).trans h2.1, (World.frozen?_of_block (hb (w.heap.size + 1 + 1) (by omega))).trans h2.2⟩, (hb _ (by omega)).trans h3, h4.trans ((B1.mono (by omega)).trans (hW.mono (by omega)))⟩
/-- The last statement's stores. -/
theorem eight_sets {w W : World} (h : Kept3E w W) (x y : ByteArray × Int) (v u : Value) :
    EBox ((((((((W.setCell ⟨w.heap.size, 0, none⟩ (.string x.1)).setCell ⟨w.heap.size, 1, none⟩ (.int .i64 x.2)).setCell ⟨w.heap.size, 2, none⟩ v).setCell ⟨w.heap.size, 3, none⟩ (.string y.1)).setCell ⟨w.heap.size, 4, none⟩ (.int .i64 y.2)).setCell ⟨w.heap.size, 5, none⟩ u).setCell ⟨w.heap.size + 1, 0, none⟩ (.int .i64 0)).setCell ⟨w.heap.size + 1 + 1, 0, none⟩ (.int .i64 0)) w.heap.size x v y u ∧ ((((((((W.setCell ⟨w.heap.size, 0, none⟩ (.string x.1)).setCell ⟨w.heap.size, 1, none⟩ (.int .i64 x.2)).setCell ⟨w.heap.size, 2, none⟩ v).setCell ⟨w.heap.size, 3, none⟩ (.string y.1)).setCell ⟨w.heap.size, 4, none⟩ (.int .i64 y.2)).setCell ⟨w.heap.size, 5, none⟩ u).setCell ⟨w.heap.size + 1, 0, none⟩ (.int .i64 0)).setCell ⟨w.heap.size + 1 + 1, 0, none⟩ (.int .i64 0)).cell? ⟨w.heap.size + 1, 0, none⟩ = some (.int .i64 0) ∧ ((((((((W.setCell ⟨w.heap.size, 0, none⟩ (.string x.1)).setCell ⟨w.heap.size, 1, none⟩ (.int .i64 x.2)).setCell ⟨w.heap.size, 2, none⟩ v).setCell ⟨w.heap.size, 3, none⟩ (.string y.1)).setCell ⟨w.heap.size, 4, none⟩ (.int .i64 y.2)).setCell ⟨w.heap.size, 5, none⟩ u).setCell ⟨w.heap.size + 1, 0, none⟩ (.int .i64 0)).setCell ⟨w.heap.size + 1 + 1, 0, none⟩ (.int .i64 0)).cell? ⟨w.heap.size + 1 + 1, 0, none⟩ = some (.int .i64 0) ∧
    (∀ q, w.heap.size + 3 ≤ q → ((((((((W.setCell ⟨w.heap.size, 0, none⟩ (.string x.1)).setCell ⟨w.heap.size, 1, none⟩ (.int .i64 x.2)).setCell ⟨w.heap.size, 2, none⟩ v).setCell ⟨w.heap.size, 3, none⟩ (.string y.1)).setCell ⟨w.heap.size, 4, none⟩ (.int .i64 y.2)).setCell ⟨w.heap.size, 5, none⟩ u).setCell ⟨w.heap.size + 1, 0, none⟩ (.int .i64 0)).setCell ⟨w.heap.size + 1 + 1, 0, none⟩ (.int .i64 0)).heap[q]? = W.heap[q]?) ∧ Below w.heap.size w ((((((((W.setCell ⟨w.heap.size, 0, none⟩ (.string x.1)).setCell ⟨w.heap.size, 1, none⟩ (.int .i64 x.2)).setCell ⟨w.heap.size, 2, none⟩ v).setCell ⟨w.heap.size, 3, none⟩ (.string y.1)).setCell ⟨w.heap.size, 4, none⟩ (.int .i64 y.2)).setCell ⟨w.heap.size, 5, none⟩ u).setCell ⟨w.heap.size + 1, 0, none⟩ (.int .i64 0)).setCell ⟨w.heap.size + 1 + 1, 0, none⟩ (.int .i64 0)) := by
  have a1 := (World.cell?_of_block (a := ⟨w.heap.size + 1, 0, none⟩) (sets_far6 (W := W) (B := w.heap.size) (show w.heap.size + 1 ≠ w.heap.size by omega) (.string x.1) (.int .i64 x.2) v (.string y.1) (.int .i64 y.2) u)).trans h.p.1
  have a2 := (World.cell?_of_block (a := ⟨w.heap.size + 1 + 1, 0, none⟩) (sets_far6 (W := W) (B := w.heap.size) (show w.heap.size + 1 + 1 ≠ w.heap.size by omega) (.string x.1) (.int .i64 x.2) v (.string y.1) (.int .i64 y.2) u)).trans h.q.1
  have a3 := ebox_all h.r x y v u
  have a4 : ∀ q, q ≠ w.heap.size → ((((((W.setCell ⟨w.heap.size, 0, none⟩ (.string x.1)).setCell ⟨w.heap.size, 1, none⟩ (.int .i64 x.2)).setCell ⟨w.heap.size, 2, none⟩ v).setCell ⟨w.heap.size, 3, none⟩ (.string y.1)).setCell ⟨w.heap.size, 4, none⟩ (.int .i64 y.2)).setCell ⟨w.heap.size, 5, none⟩ u).heap[q]? = W.heap[q]? := fun q hq => sets_far6 hq _ _ _ _ _ _
  have a5 : Below w.heap.size w ((((((W.setCell ⟨w.heap.size, 0, none⟩ (.string x.1)).setCell ⟨w.heap.size, 1, none⟩ (.int .i64 x.2)).setCell ⟨w.heap.size, 2, none⟩ v).setCell ⟨w.heap.size, 3, none⟩ (.string y.1)).setCell ⟨w.heap.size, 4, none⟩ (.int .i64 y.2)).setCell ⟨w.heap.size, 5, none⟩ u) := sets_low6 h.low (Nat.le_refl _) _ _ _ _ _ _
  generalize ((((((W.setCell ⟨w.heap.size, 0, none⟩ (.string x.1)).setCell ⟨w.heap.size, 1, none⟩ (.int .i64 x.2)).setCell ⟨w.heap.size, 2, none⟩ v).setCell ⟨w.heap.size, 3, none⟩ (.string y.1)).setCell ⟨w.heap.size, 4, none⟩ (.int .i64 y.2)).setCell ⟨w.heap.size, 5, none⟩ u) = W1 at a1 a2 a3 a4 a5 ⊢
  obtain ⟨b1, b2, b3⟩ := two_sets (show w.heap.size + 1 ≠ w.heap.size + 1 + 1 by omega) a1 a2
  exact ⟨(b3 _ (by omega) (by omega)).trans a3, b1, b2, fun q hq => (b3 q (by omega) (by omega)).trans (a4 q (by omega)), set_low (set_low a5 (by omega) _) (by omega) _⟩
theorem load_eq {w : World} {B : Nat} {x y : ByteArray × Int} {v u : Value} (h : EBox w B x v y u) : (loadVar 35 ⟨B, 0, none⟩).run Try.prog w = .ok (.agg #[.string x.1, .int .i64 x.2, v, .string y.1, .int .i64 y.2, u]) w :=
  run_loadVar_row w B 35 35 _ (0, 0) _ h Try.underlying35 rfl (by kernel_rfl)
/-- What text and signature are read as: the equation; or what is wrong, and where. -/
def fullE (s : ByteArray) (l : List Sym) : Except (Int × Nat) (Tn × Tn) := if 800 < s.size then .error (55, 0) else match eqC s l 0 with
  | .error e => .error e
  | .ok (t, u, k) => match endR s k with
    | .error e => .error e
    | .ok _ => if chk l t.1 t.2 = 0 then (if chk l u.1 u.2 = 0 then .ok (t, u) else .error (chk l u.1 u.2, 0)) else .error (chk l t.1 t.2, 0)
/-- How Equation ends. -/
def FullEEnd (w : World) (res : Except (Int × Nat) (Tn × Tn)) (e : Ending) (w' : World) : Prop := (match res with
    | .error q => e = .returned (.tuple #[.agg #[.string ⟨#[]⟩, .int .i64 0, .slice none 0 0, .string ⟨#[]⟩, .int .i64 0, .slice none 0 0], .int .i64 q.1, .int .i64 q.2])
    | .ok (t, u) => ∃ a c b d, e = .returned (.tuple #[.agg #[.string t.1.1, .int .i64 t.1.2, .slice a (lenF t.2) c, .string u.1.1, .int .i64 u.1.2, .slice b (lenF u.2) d], .int .i64 0, .int .i64 0]) ∧ OwnTm false (fun q => w.heap.size ≤ q) w' t.1 a c t.2 ∧ OwnTm false (fun q => w.heap.size ≤ q) w' u.1 b d u.2) ∧ Below w.heap.size w w'

set_option maxRecDepth 100000 in
set_option maxHeartbeats 4000000 in
theorem readE_long (S : Option Addr) (n cap : Nat) (s : ByteArray) (w : World) (hs : 800 < s.size) :
    Calls Try.prog 37 #[.slice S n cap, .string s, .func (.func 38) #[] #[]] w fun e w' => e = .returned (.tuple #[.agg #[.string ⟨#[]⟩, .int .i64 0, .slice none 0 0, .string ⟨#[]⟩, .int .i64 0, .slice none 0 0], .int .i64 55, .int .i64 0]) ∧ Below w.heap.size w w' := by
  have hmf : ∀ (fn : Fn) (first cap : Array Value) (w : World), (Instr.makeFunc fn first cap).run Try.prog w = .ok (.func fn first cap) w := fun _ _ _ _ => rfl
  have hs' : (800 : Int) < s.size := by omega
  go_enter_defers Try.func37, Try.ntmps37
  go_wp2
  obtain ⟨V, hV, hV1, hV2, hVz, hVl, hVs⟩ := threeE_new w
  rw [hV]
  refine door_fault (at_ := 0) rfl rfl rfl rfl (by simp [go_sem]) (catchE_fault _ _ 55 0 0 0 [] _ (by omega) hV1.1 hV2.1 hV1.2 hV2.2) (fun W' h => load_eq (h.trans hVz)) (by omega) (by omega) (Array.getElem?_eq_some_iff.1 hVz).1 (fun W' hf => ⟨rfl, ?_⟩)
  exact hVl.trans (hf.below (fun k hk => by omega) hVl.size)

set_option maxRecDepth 100000 in
set_option maxHeartbeats 4000000 in
theorem read_eq (S : Option Addr) (n cap : Nat) (l : List Sym) (s : ByteArray) (w : World) (hs : s.size ≤ 800) (hS : SigAt w S n l) :
    Calls Try.prog 37 #[.slice S n cap, .string s, .func (.func 38) #[] #[]] w fun e w' => FullEEnd w (fullE s l) e w' := by
  have hmf : ∀ (fn : Fn) (first cap : Array Value) (w : World), (Instr.makeFunc fn first cap).run Try.prog w = .ok (.func fn first cap) w := fun _ _ _ _ => rfl
  have hs' : ¬ (800 : Int) < s.size := by omega
  obtain ⟨V, hV, hV1, hV2, hVz, hVl, hVs⟩ := threeE_new w
  have B1 := alloc_below0 V (.cells #[.slice S n cap, .string s, .int .i64 0, .slice none 0 0] 98)
  have LV := hid (hVl.trans (B1.mono hVl.size))
  have R0 : RdBox (V.alloc (.cells #[.slice S n cap, .string s, .int .i64 0, .slice none 0 0] 98)) V.heap.size (.slice S n cap) s 0 (.slice none 0 0) := World.alloc_heap_new V _
  rw [hVs] at R0
  have hc := eq_rd (w0 := w) (B := w.heap.size + 3) (cap := cap) (by omega) hs hS (V.alloc (.cells #[.slice S n cap, .string s, .int .i64 0, .slice none 0 0] 98)) R0 LV.out
  have HC := hid hc
  have KE : Hid (∀ W, Below (w.heap.size + 3) (V.alloc (.cells #[.slice S n cap, .string s, .int .i64 0, .slice none 0 0] 98)) W → Kept3E w W) := hid fun W hW => Kept3E.of hV1 hV2 hVz hVl hVs B1 hW
  have hVa : Hid ((V.alloc (.cells #[.slice S n cap, .string s, .int .i64 0, .slice none 0 0] 98)).heap.size = w.heap.size + 4) := by show _ = _; rw [World.size_alloc, hVs]
  have HS := hid hS
  have hsm : s.size ≤ maxLen := by unfold maxLen; omega
  clear hc R0 B1 hV1 hV2 hVz hVl hS
  obtain ⟨res, hres⟩ : ∃ res, fullE s l = res := ⟨_, rfl⟩
  rw [hres]
  unfold fullE at hres
  rw [if_neg (by omega)] at hres
  have HRS := hid hres
  clear hres
  go_enter_defers Try.func37, Try.ntmps37
  go_wp2_with fail
  clear hV
  generalize V.alloc (.cells #[.slice S n cap, .string s, .int .i64 0, .slice none 0 0] 98) = V1 at LV HC KE hVa ⊢
  have hc := HC.out
  have hres := HRS.out
  unfold EqEnd at hc
  cases hr : eqC s l 0 with
  | error q =>
    rw [hr] at hc hres
    dsimp only at hc hres
    unfold faultP at hc
    refine hc.mono ?_
    rintro e w2 ⟨rfl, hb2⟩
    have K2 := hid (KE.out w2 hb2)
    have HR := hid hres
    clear hc hres hb2
    go_wp2
    refine door_fault rfl rfl rfl rfl (by simp [go_sem]) (catchE_fault _ _ q.1 q.2 0 0 [] _ (by omega) K2.out.p.1 K2.out.q.1 K2.out.p.2 K2.out.q.2) (fun W' h => load_eq (h.trans K2.out.r)) (by omega) (by omega) (Array.getElem?_eq_some_iff.1 K2.out.r).1 (fun W' hf => ?_)
    rw [← HR.out]
    exact ⟨rfl, K2.out.low.trans (hf.below (fun k hk => by omega) K2.out.low.size)⟩
  | ok qq =>
    obtain ⟨t1, t2, k'⟩ := qq
    rw [hr] at hc hres
    dsimp only at hc hres
    refine hc.mono ?_
    rintro e w2 ⟨⟨⟨x, m, ta, tc⟩, ⟨y, u, ua, uc⟩, tv, rfl, rfl, rfl, hrb2, hls2, hk'⟩, hb2⟩
    unfold Kv.tn at hres
    dsimp only at hres ⊢
    have hsz2 := hb2.size
    rw [hVa.out] at hsz2 hls2
    have B2 := alloc_below0 w2 (.cells #[.string x.1, .int .i64 x.2, .slice ta (lenF m) tc, .string y.1, .int .i64 y.2, .slice ua (lenF u) uc] 35)
    have X2 : Hid (EBox (w2.alloc (.cells #[.string x.1, .int .i64 x.2, .slice ta (lenF m) tc, .string y.1, .int .i64 y.2, .slice ua (lenF u) uc] 35)) w2.heap.size x (.slice ta (lenF m) tc) y (.slice ua (lenF u) uc)) := World.alloc_heap_new w2 _
    have R2 := hid (hrb2.below B2)
    have L2 := hid (hls2.below B2)
    have K2 : Hid (∀ W, Below (w2.alloc (.cells #[.string x.1, .int .i64 x.2, .slice ta (lenF m) tc, .string y.1, .int .i64 y.2, .slice ua (lenF u) uc] 35)).heap.size (w2.alloc (.cells #[.string x.1, .int .i64 x.2, .slice ta (lenF m) tc, .string y.1, .int .i64 y.2, .slice ua (lenF u) uc] 35)) W → Kept3E w W) := hid fun W hW => KE.out W (hb2.trans ((B2.mono (by omega)).trans (hW.mono (by rw [World.size_alloc]; omega))))
    have hs2 : Hid ((w2.alloc (.cells #[.string x.1, .int .i64 x.2, .slice ta (lenF m) tc, .string y.1, .int .i64 y.2, .slice ua (lenF u) uc] 35)).heap.size = w2.heap.size + 1) := by show _ = _; rw [World.size_alloc]
    have HRS2 := hid hres
    clear hc hres hb2 hrb2 hls2 B2 HC KE HRS
    go_wp2_with fail
    generalize w2.alloc (.cells #[.string x.1, .int .i64 x.2, .slice ta (lenF m) tc, .string y.1, .int .i64 y.2, .slice ua (lenF u) uc] 35) = V2 at X2 R2 L2 K2 hs2 ⊢
    have he := end_rd (w.heap.size + 3) (.slice S n cap) tv s k' V2 R2.out hsm hk'
    cases hen : endR s k' with
    | error q =>
      have hres := HRS2.out
      rw [hen] at he hres
      dsimp only at he hres
      unfold faultP at he
      refine he.mono ?_
      rintro e w3 ⟨rfl, hb3⟩
      have K3 := hid (K2.out w3 hb3)
      have HR := hid hres
      clear he hres hb3
      go_wp2
      refine door_fault rfl rfl rfl rfl (by simp [go_sem]) (catchE_fault _ _ q.1 q.2 0 0 [] _ (by omega) K3.out.p.1 K3.out.q.1 K3.out.p.2 K3.out.q.2) (fun W' h => load_eq (h.trans K3.out.r)) (by omega) (by omega) (Array.getElem?_eq_some_iff.1 K3.out.r).1 (fun W' hf => ?_)
      rw [← HR.out]
      exact ⟨rfl, K3.out.low.trans (hf.below (fun k hk => by omega) K3.out.low.size)⟩
    | ok q =>
      have hres := HRS2.out
      rw [hen] at he hres
      dsimp only at he hres
      refine he.mono ?_
      rintro e w3 ⟨rfl, hb3⟩
      have K3 : Hid (∀ W, Below w3.heap.size w3 W → Kept3E w W) := hid fun W hW => K2.out W (hb3.trans (hW.mono hb3.size))
      have X3 : Hid (EBox w3 w2.heap.size x (.slice ta (lenF m) tc) y (.slice ua (lenF u) uc)) := hid ((hb3.block _ (by have := hs2.out; omega)).trans X2.out)
      have R3 := R2.out.below hb3
      have L3 := hid (L2.out.below hb3)
      have HR := hid hres
      have hs3 : w2.heap.size + 1 ≤ w3.heap.size := by have := hb3.size; rw [hs2.out] at this; exact this
      obtain ⟨ra, rc, hrv, _, _, hrow, _, _⟩ := row_of_owns L3.out.row
      subst hrv
      have hcc := check_rd (w.heap.size + 3) S n cap l s k' [⟨x, m, ta, tc⟩, ⟨y, u, ua, uc⟩] ra rc w3 R3 (HS.out.below (K3.out w3 (Below.refl _ _)).low) hrow (by simp) (fun k hk => (L3.out.own k hk).tm)
      clear he hres hb3 hrow R3
      go_wp2_with fail
      obtain ⟨fe, hfe⟩ : ∃ fe, firstE l [⟨x, m, ta, tc⟩, ⟨y, u, ua, uc⟩] = fe := ⟨_, rfl⟩
      have hff : res = (if fe = 0 then .ok ((x, m), (y, u)) else .error (fe, 0)) := by
        have h := HR.out
        unfold firstE firstE firstE at hfe
        by_cases h1 : chk l x m = 0
        · by_cases h2 : chk l y u = 0
          · rw [if_pos h1, if_pos h2] at h
            rw [if_pos h1, if_pos h2] at hfe
            subst hfe
            rw [if_pos rfl, h]
          · rw [if_pos h1, if_neg h2] at h
            rw [if_pos h1, if_neg h2] at hfe
            subst hfe
            rw [if_neg h2, h]
        · rw [if_neg h1] at h
          rw [if_neg h1] at hfe
          subst hfe
          rw [if_neg h1, h]
      rw [hfe] at hcc
      have HFF := hid hff
      clear hfe hff HR
      by_cases hch : fe = 0
      · refine hcc.mono ?_
        rintro e w4 ⟨he4, hb4⟩
        rw [if_pos hch] at he4
        subst he4
        have K4 := K3.out w4 hb4
        have X4 : EBox w4 w2.heap.size x (.slice ta (lenF m) tc) y (.slice ua (lenF u) uc) := (hb4.block _ (by omega)).trans X3.out
        have O4 : OwnTm false (fun q => w.heap.size + 5 ≤ q) w4 x ta tc m := ((L3.out.own _ (List.mem_cons_self ..)).mono (fun q _ hq => by have := hq.1; omega)).below hb4
        have P4 : OwnTm false (fun q => w.heap.size + 5 ≤ q) w4 y ua uc u := ((L3.out.own _ (List.mem_cons_of_mem _ (List.mem_singleton.2 rfl))).mono (fun q _ hq => by have := hq.1; omega)).below hb4
        have p0 := K4.p.1; have p1 := K4.p.2; have q0 := K4.q.1; have q1 := K4.q.2
        have r0 := K4.r.c 0; have r1 := K4.r.c 1; have r2 := K4.r.c 2; have r3 := K4.r.c 3; have r4 := K4.r.c 4; have r5 := K4.r.c 5
        have z0 := K4.r.f 0; have z1 := K4.r.f 1; have z2 := K4.r.f 2; have z3 := K4.r.f 3; have z4 := K4.r.f 4; have z5 := K4.r.f 5
        have x0 := X4.c 0; have x1 := X4.c 1; have x2 := X4.c 2; have x3 := X4.c 3; have x4 := X4.c 4; have x5 := X4.c 5
        have hs4 := hb4.size
        have HK4 := hid K4; have HO4 := hid O4; have HP4 := hid P4
        have n1 : ¬ w.heap.size = w2.heap.size := by omega
        clear hcc K4 X4 O4 P4 hb4
        go_wp2
        obtain ⟨e1, e2, e3, e4, e5⟩ := eight_sets HK4.out x y (.slice ta (lenF m) tc) (.slice ua (lenF u) uc)
        refine door_done rfl rfl rfl rfl (by simp [go_sem]) (catchE_none _ _ _) (load_eq e1) e2 e3 ?_
        have hres := HFF.out
        rw [if_pos hch] at hres
        rw [hres]
        exact ⟨⟨ta, tc, ua, uc, rfl, (HO4.out.keep (fun q hq _ => e4 q (by omega))).mono (fun q _ hq => by omega), (HP4.out.keep (fun q hq _ => e4 q (by omega))).mono (fun q _ hq => by omega)⟩, e5⟩
      · refine hcc.mono ?_
        rintro e w4 ⟨he4, hb4⟩
        rw [if_neg hch] at he4
        unfold faultP at he4
        subst he4
        have K4 := hid (K3.out w4 hb4)
        clear hcc hb4
        go_wp2
        refine door_fault rfl rfl rfl rfl (by simp [go_sem]) (catchE_fault _ _ fe 0 0 0 [] _ (by omega) K4.out.p.1 K4.out.q.1 K4.out.p.2 K4.out.q.2) (fun W' h => load_eq (h.trans K4.out.r)) (by omega) (by omega) (Array.getElem?_eq_some_iff.1 K4.out.r).1 (fun W' hf => ?_)
        have hres := HFF.out
        rw [if_neg hch] at hres
        rw [hres]
        exact ⟨rfl, K4.out.low.trans (hf.below (fun k hk => by omega) K4.out.low.size)⟩
theorem readE_all (S : Option Addr) (n cap : Nat) (l : List Sym) (s : ByteArray) (w : World) (hS : SigAt w S n l) :
    Calls Try.prog 37 #[.slice S n cap, .string s, .func (.func 38) #[] #[]] w fun e w' => FullEEnd w (fullE s l) e w' := by
  by_cases hs : s.size ≤ 800
  · exact read_eq S n cap l s w hs hS
  · refine (readE_long S n cap s w (by omega)).mono ?_
    rintro e w' ⟨rfl, hb⟩
    have : fullE s l = .error (55, 0) := by unfold fullE; rw [if_pos (by omega)]
    rw [this]
    exact ⟨rfl, hb⟩
theorem ret_eq3 {fn : Func} {R : Ending → World → Prop} {a : Act} {w : World} {B : Nat} {x y : ByteArray × Int} {v u : Value} (h : fn.results = #[.cell 4 35, .tmp 5, .tmp 6]) (h4 : a.tmps.getD 4 undef = .pointer (some ⟨B, 0, none⟩))
    (hx : EBox w B x v y u) (hd : a.defers = []) (hR : R (.returned (.tuple #[.agg #[.string x.1, .int .i64 x.2, v, .string y.1, .int .i64 y.2, u], a.tmps.getD 5 undef, a.tmps.getD 6 undef])) w) : bodyPost Try.prog fn R .ret a w := by
  refine bodyPost_ret ?_ hd hR
  rw [results_cell2 h, h4]
  rw [show (asAddr (.pointer (some ⟨B, 0, none⟩))).run Try.prog w = .ok ⟨B, 0, none⟩ w from rfl]
  simp only [Result.andThen_ok, load_eq hx]
set_option maxRecDepth 100000 in
set_option maxHeartbeats 4000000 in
/-- Equation of a text. -/
theorem equation_any (S : Option Addr) (n cap : Nat) (l : List Sym) (s : ByteArray) (w : World) (hS : SigAt w S n l) :
    Calls Try.prog 13 #[.slice S n cap, .string s] w fun e w' => FullEEnd w (fullE s l) e w' := by
  have B0 := alloc_below0 w (.cells #[.string ⟨#[]⟩, .int .i64 0, .slice none 0 0, .string ⟨#[]⟩, .int .i64 0, .slice none 0 0] 35)
  have X0 : EBox (w.alloc (.cells #[.string ⟨#[]⟩, .int .i64 0, .slice none 0 0, .string ⟨#[]⟩, .int .i64 0, .slice none 0 0] 35)) w.heap.size (⟨#[]⟩, 0) (.slice none 0 0) (⟨#[]⟩, 0) (.slice none 0 0) := World.alloc_heap_new w _
  have hc := readE_all S n cap l s _ (hS.below B0)
  have HX := hid X0; have HB := hid B0; have HC := hid hc
  clear hc B0 X0 hS
  obtain ⟨res, hres⟩ : ∃ res, fullE s l = res := ⟨_, rfl⟩
  rw [hres] at HC ⊢
  clear hres
  go_enter Try.func13, Try.ntmps13
  go_wp2_with fail
  generalize w.alloc (.cells #[.string ⟨#[]⟩, .int .i64 0, .slice none 0 0, .string ⟨#[]⟩, .int .i64 0, .slice none 0 0] 35) = V0 at HX HB HC ⊢
  have hw0 := HX.out.lt
  have hc := HC.out
  unfold FullEEnd at hc
  cases res with
  | error q =>
    dsimp only at hc
    refine hc.mono ?_
    rintro e w1 ⟨rfl, hb⟩
    have X1 := HX.out.below hb
    have r0 := X1.c 0; have r1 := X1.c 1; have r2 := X1.c 2; have r3 := X1.c 3; have r4 := X1.c 4; have r5 := X1.c 5
    have z0 := X1.f 0; have z1 := X1.f 1; have z2 := X1.f 2; have z3 := X1.f 3; have z4 := X1.f 4; have z5 := X1.f 5
    have H1 := hid X1
    have L1 := hid (HB.out.trans (hb.mono HB.out.size))
    clear hc hb X1
    go_wp2
    refine ret_eq3 rfl rfl (ebox_all H1.out (⟨#[]⟩, 0) (⟨#[]⟩, 0) (.slice none 0 0) (.slice none 0 0)) rfl ?_
    exact ⟨rfl, sets_low6 L1.out (Nat.le_refl _) _ _ _ _ _ _⟩
  | ok tt =>
    obtain ⟨⟨x, m⟩, ⟨y, u⟩⟩ := tt
    dsimp only at hc
    refine hc.mono ?_
    rintro e w1 ⟨⟨ta, tc, ua, uc, rfl, ho, hp⟩, hb⟩
    have X1 := HX.out.below hb
    have r0 := X1.c 0; have r1 := X1.c 1; have r2 := X1.c 2; have r3 := X1.c 3; have r4 := X1.c 4; have r5 := X1.c 5
    have z0 := X1.f 0; have z1 := X1.f 1; have z2 := X1.f 2; have z3 := X1.f 3; have z4 := X1.f 4; have z5 := X1.f 5
    have H1 := hid X1
    have HO := hid ho; have HP := hid hp
    have L1 := hid (HB.out.trans (hb.mono HB.out.size))
    clear hc hb X1 ho hp
    go_wp2
    refine ret_eq3 rfl rfl (ebox_all H1.out x y (.slice ta (lenF m) tc) (.slice ua (lenF u) uc)) rfl ?_
    exact ⟨⟨ta, tc, ua, uc, rfl, (HO.out.keep (fun q hq _ => sets_far6 (by omega) _ _ _ _ _ _)).mono (fun q _ hq => by omega), (HP.out.keep (fun q hq _ => sets_far6 (by omega) _ _ _ _ _ _)).mono (fun q _ hq => by omega)⟩, sets_low6 L1.out (Nat.le_refl _) _ _ _ _ _ _⟩
end Go.Proofs.Ytkcbhbkldcebiaa

namespace Go.Proofs.Ytkcbhbkldcebiaa
open Go.RowKit Go.Deep

/-- Its symbol is there. -/
def InX (l : List Sym) (x : ByteArray × Int) : Prop := x.1.size = 0 → 0 ≤ x.2 ∧ x.2 < l.length
def InF (l : List Sym) : Fo → Prop
  | .nil => True
  | .node _ _ x m r => InX l x ∧ InF l m ∧ InF l r
theorem inF_kids {l : List Sym} : ∀ {m : Fo}, InF l m → ∀ t ∈ kidsL m, InX l t.1 ∧ InF l t.2
  | .nil, _, t, ht => by cases ht
  | .node _ _ x m r, ⟨h1, h2, h3⟩, t, ht => by
    rcases List.mem_cons.1 ht with rfl | ht
    · exact ⟨h1, h2⟩
    · exact inF_kids h3 t ht
/-- What is written when some of the arguments are. -/
def docT (l : List Sym) (nm : List UInt8) (ts : List Tn) : List UInt8 := nm ++ (if ts.isEmpty then [] else [40] ++ showTs l true ts)
theorem docT_snoc (l : List Sym) (nm : List UInt8) (ts : List Tn) (t : Tn) : docT l nm (ts ++ [t]) = docT l nm ts ++ (if ts.isEmpty then [40] else [44]) ++ showN l t.1 t.2 := by
  unfold docT
  have h1 : (ts ++ [t]).isEmpty = false := by cases ts <;> rfl
  rw [h1, showTs_snoc]
  cases ts with
  | nil => simp [showTs]
  | cons => simp
theorem docT_len (l : List Sym) (nm : List UInt8) : ∀ (ts us : List Tn), (docT l nm ts).length ≤ (docT l nm (ts ++ us)).length
  | ts, [] => by simp
  | ts, u :: us => by
    have h1 := docT_len l nm (ts ++ [u]) us
    rw [List.append_assoc, List.singleton_append, docT_snoc] at h1
    simp only [List.length_append] at h1 ⊢
    omega
theorem docT_take (l : List Sym) (nm : List UInt8) (ts : List Tn) (j : Nat) : (docT l nm (ts.take j)).length ≤ (docT l nm ts).length := by
  have := docT_len l nm (ts.take j) (ts.drop j)
  rwa [List.take_append_drop] at this
def RShowOk (S : Option Addr) (n cap : Nat) (l : List Sym) (z : Nat) : Prop := ∀ (x : ByteArray × Int) (m : Fo) (a : Option Addr) (c : Nat) (w : World), nodesF m < z → InX l x → InF l m → SigAt w S n l → TmAt w x a c m → (showN l x m).length ≤ 140737488355328 →
  Calls Try.prog 24 #[.slice S n cap, .agg #[.string x.1, .int .i64 x.2, .slice a (lenF m) c]] w fun e w' => (∃ o : ByteArray, e = .returned (.string o) ∧ o.data.toList = showN l x m) ∧ Below w.heap.size w w'
theorem ba_app (a b : ByteArray) : (a ++ b).data.toList = a.data.toList ++ b.data.toList := by simp [ByteArray.data_append]
theorem ba_len {a : ByteArray} {l : List UInt8} (h : a.data.toList = l) : a.size = l.length := by rw [← h]; rfl

set_option maxRecDepth 100000 in
set_option maxHeartbeats 4000000 in
theorem rshow_of {S : Option Addr} {n cap : Nat} {l : List Sym} {z : Nat} (ih : ∀ y, y < z → RShowOk S n cap l y) : RShowOk S n cap l z := by
  intro x m a c w hz hix hif hS hT hlen
  obtain ⟨tn, ts⟩ := x
  have B0 := alloc_below0 w (.cells #[.string tn, .int .i64 ts, .slice a (lenF m) c] 28)
  have X0 : Hid (XBox (w.alloc (.cells #[.string tn, .int .i64 ts, .slice a (lenF m) c] 28)) w.heap.size (tn, ts) (.slice a (lenF m) c)) := World.alloc_heap_new w _
  have L0 := hid B0
  have HT := hid hT; have HS := hid hS; have IH := hid ih; have HF := hid hif
  have x0 := X0.out.c0; have x1 := X0.out.c1; have x2 := X0.out.c2
  dsimp only at x0 x1
  clear hT hS ih B0 hif
  by_cases hx : tn.size = 0
  · have hxe : tn.toList.isEmpty = true := empty_of hx
    obtain ⟨h0, h1⟩ := hix hx
    dsimp only at h0 h1
    obtain ⟨j, rfl⟩ : ∃ j : Nat, ts = j := ⟨ts.toNat, by omega⟩
    have hj : j < l.length := by omega
    obtain ⟨hl, hm, hcells, _⟩ := HS.out
    subst hl
    unfold maxLen at hm
    obtain ⟨sb, so, rfl, hsym⟩ := hcells j hj
    have c0 := below_cell L0.out _ _ hsym.name
    obtain ⟨nm, hnm⟩ : ∃ nm, l[j].name = nm := ⟨_, rfl⟩
    rw [hnm] at c0
    have hsn : showN l (tn, (j : Int)) m = docT l nm.data.toList (kidsL m) ++ (if lenF m = 0 then [] else [41]) := by
      have e : symB l (j : Int) = nm := by
        unfold symB
        rw [if_pos (by omega)]
        rw [← hnm]
        simp [List.getD, hj]
      unfold showN docT
      dsimp only
      rw [if_pos hx, e, showF_ts]
      by_cases hm0 : lenF m = 0
      · have : m = .nil := len_nil hm0
        subst this
        simp [lenF, kidsL]
      · rw [if_neg hm0, if_neg hm0]
        have : (kidsL m).isEmpty = false := by
          cases m with
          | nil => exact absurd rfl hm0
          | node => rfl
        rw [this]
        simp
    have HSN := hid hsn
    rw [hsn, List.length_append] at hlen
    clear hsn hcells hsym hix h0 h1 hnm
    have g1 : ¬ (j : Int) < 0 := by omega
    have g2 : ¬ (l.length : Int) ≤ (j : Int) := by omega
    have g3 : (j : Int) < (l.length : Int) := by omega
    have hmx := HT.out.sizes.few
    go_enter Try.func24, Try.ntmps24
    go_wp2_with fail
    generalize w.alloc (.cells #[.string tn, .int .i64 j, .slice a (lenF m) c] 28) = V0 at X0 L0 x0 x1 x2 c0 ⊢
    have hnl : nm.size ≤ 140737488355328 := by
      have : nm.data.toList.length = nm.size := rfl
      unfold docT at hlen
      rw [List.length_append] at hlen
      omega
    go_loopw [5, 6] (fun oo ov wr => ∃ (k : Nat) (o : ByteArray), ov = .int .i64 k ∧ k ≤ lenF m ∧ oo = .string o ∧ o.data.toList = docT l nm.data.toList ((kidsL m).take k) ∧ Below V0.heap.size V0 wr) (fun _ ov _ => lenF m - (intOf ov).toNat)
    case atStart => exact ⟨0, nm, rfl, Nat.zero_le _, rfl, by simp [docT], Below.refl _ _⟩
    case round =>
      obtain ⟨k, o, rfl, hk, rfl, ho, hbr⟩ := hrel
      have HBr := hid hbr
      have LWr := hid (L0.out.trans (hbr.mono L0.out.size))
      have Xr := X0.out.below hbr
      have y0 := Xr.c0; have y1 := Xr.c1; have y2 := Xr.c2
      dsimp only at y0 y1
      clear hbr x0 x1 x2 Xr c0
      have hosz := ba_len ho
      by_cases hlt : k < lenF m
      · obtain ⟨bb, oo, rfl, hkk⟩ := HT.out.args.get (by omega)
        obtain ⟨y, a1, c1, l1, kd⟩ := hkk.kid (k := k) hlt
        have kd' := kd.below LWr.out
        have p0 := kd'.name; have p1 := kd'.sym; have p2 := kd'.list
        have hst : (kidsL m).take (k + 1) = (kidsL m).take k ++ [(y, l1)] := by obtain ⟨B', O', hs⟩ := kd.split; exact kids_take hs
        have hmem : (y, l1) ∈ kidsL m := by
          have : (y, l1) ∈ (kidsL m).take (k + 1) := by rw [hst]; simp
          exact List.mem_of_mem_take this
        obtain ⟨hiy, hil⟩ := inF_kids HF.out _ hmem
        dsimp only at hiy hil
        have hsc := docT_snoc l nm.data.toList ((kidsL m).take k) (y, l1)
        rw [← hst] at hsc
        have hln : (docT l nm.data.toList ((kidsL m).take (k + 1))).length ≤ (docT l nm.data.toList (kidsL m)).length := docT_take _ _ _ _
        have hln2 := hln
        rw [hsc] at hln2
        simp only [List.length_append] at hln2
        dsimp only at hsc hln2
        have hless := kd.less
        have HSC := hid hsc
        have HK := hid (IH.out (nodesF l1 + 1) (by omega) y l1 a1 c1 wr (Nat.lt_succ_self _) hiy hil (HS.out.below LWr.out) (kd.at_.below LWr.out) (by omega))
        clear hsc hst kd kd' hkk hmem hiy hil hln
        have HO := hid ho; have HZ := hid hosz; have HL2 := hid hln2; have HLN := hid hlen
        by_cases hk0 : k = 0
        · subst hk0
          simp only [Nat.zero_mul, Nat.add_zero] at p0 p1 p2
          have hlo : o.size + 1 + (showN l y l1).length ≤ 140737488355328 := by
            have h1 : o.size + 1 + (showN l y l1).length ≤ (docT l nm.data.toList (kidsL m)).length := by rw [hosz]; simpa using hln2
            omega
          have hlo1 : o.size ≤ 140737488355328 := by omega
          have HLO := hid hlo
          clear hosz ho hln2 hlen hlo
          go_wp2_with fail
          refine HK.out.mono ?_
          rintro e w5 ⟨⟨o5, rfl, ho5⟩, hb5⟩
          have L5 := hid (HBr.out.trans (hb5.mono HBr.out.size))
          have HO5 := hid ho5
          have hlp : (o ++ (⟨#[40]⟩ : ByteArray)).size ≤ 140737488355328 := by
            have := HLO.out
            rw [ByteArray.size_append]; show o.size + 1 ≤ _; omega
          have hlq : o5.size ≤ 140737488355328 := by
            have := HLO.out; have := ba_len ho5; omega
          clear hb5 HK ho5
          go_wp2
          go_roundw
          case rel =>
            refine ⟨1, _, by go_num, by omega, rfl, ?_, L5.out⟩
            rw [HSC.out, ba_app, ba_app, HO.out, HO5.out]
            rfl
          case measure => simp [intOf]; omega
        · have hne : ((kidsL m).take k).isEmpty = false := by
            have : ((kidsL m).take k).length = k := by rw [List.length_take, kids_len]; omega
            cases h : (kidsL m).take k with
            | nil => rw [h] at this; simp at this; omega
            | cons => rfl
          have hk1 : ¬ (k : Int) = 0 := by omega
          have hlo : o.size + 1 + (showN l y l1).length ≤ 140737488355328 := by
            rw [hne] at hln2
            have h1 : o.size + 1 + (showN l y l1).length ≤ (docT l nm.data.toList (kidsL m)).length := by rw [hosz]; simpa using hln2
            omega
          have hlo1 : o.size ≤ 140737488355328 := by omega
          have HLO := hid hlo
          have HNE := hid hne
          clear hosz ho hln2 hlen hlo hne
          go_wp2_with fail
          refine HK.out.mono ?_
          rintro e w5 ⟨⟨o5, rfl, ho5⟩, hb5⟩
          have L5 := hid (HBr.out.trans (hb5.mono HBr.out.size))
          have HO5 := hid ho5
          have hlp : (o ++ (⟨#[44]⟩ : ByteArray)).size ≤ 140737488355328 := by
            have := HLO.out
            rw [ByteArray.size_append]; show o.size + 1 ≤ _; omega
          have hlq : o5.size ≤ 140737488355328 := by
            have := HLO.out; have := ba_len ho5; omega
          clear hb5 HK ho5
          go_wp2
          go_roundw
          case rel =>
            refine ⟨k + 1, _, by go_num, by omega, rfl, ?_, L5.out⟩
            rw [HSC.out, ba_app, ba_app, HO.out, HO5.out, HNE.out]
            rfl
          case measure => simp [intOf]; omega
      · have hkl : k = (kidsL m).length := by rw [kids_len]; omega
        have ho' : o.data.toList = docT l nm.data.toList (kidsL m) := by rw [ho, hkl, List.take_length]
        have hlo1 : o.size ≤ 140737488355328 := by rw [ba_len ho']; omega
        have HO := hid ho'
        have LW := hid (L0.out.trans (HBr.out.mono L0.out.size))
        by_cases hm0 : lenF m = 0
        · have hm0' : ((lenF m : Nat) : Int) = 0 := by omega
          have HM := hid hm0
          clear ho ho' hosz hlen hm0 hkl
          go_wp2
          go_ret
          refine ⟨⟨_, rfl, ?_⟩, LW.out⟩
          rw [HSN.out, if_pos HM.out, List.append_nil]
          exact HO.out
        · have hm0' : (0 : Int) < ((lenF m : Nat) : Int) := by omega
          have HM := hid hm0
          clear ho ho' hosz hlen hm0 hkl
          go_wp2
          go_ret
          refine ⟨⟨_, rfl, ?_⟩, LW.out⟩
          rw [HSN.out, if_neg HM.out, ba_app, HO.out]
  · have hsn : showN l (tn, ts) m = tn.data.toList := by unfold showN; rw [if_neg hx]
    have hxe : tn.toList.isEmpty = false := not_empty_of hx
    go_enter Try.func24, Try.ntmps24
    go_wp2
    go_ret
    exact ⟨⟨_, rfl, hsn.symm⟩, L0.out⟩
theorem rshow_all {S : Option Addr} {n cap : Nat} {l : List Sym} : ∀ z, RShowOk S n cap l z := by
  intro z
  induction z using Nat.strongRecOn with
  | _ z ih => exact rshow_of ih
end Go.Proofs.Ytkcbhbkldcebiaa

namespace Go.Proofs.Ytkcbhbkldcebiaa
open Go.RowKit Go.Deep

/-- A variable and the term bound to it. -/
abbrev Bn := ByteArray × Tn
structure BdAt (w : World) (b o : Nat) (x : Bn) (a : Option Addr) (c : Nat) : Prop where
  var : w.cell? ⟨b, o, none⟩ = some (.string x.1)
  name : w.cell? ⟨b, o + 1, none⟩ = some (.string x.2.1.1)
  sym : w.cell? ⟨b, o + 2, none⟩ = some (.int .i64 x.2.1.2)
  list : w.cell? ⟨b, o + 3, none⟩ = some (.slice a (lenF x.2.2) c)
  tm : TmAt w x.2.1 a c x.2.2
theorem BdAt.below {w w' : World} {b o : Nat} {x : Bn} {a : Option Addr} {c : Nat} (h : BdAt w b o x a c) (hb : Below w.heap.size w w') : BdAt w' b o x a c :=
  ⟨below_cell hb _ _ h.var, below_cell hb _ _ h.name, below_cell hb _ _ h.sym, below_cell hb _ _ h.list, h.tm.below hb⟩
/-- The slice with this address and length holds these binds. -/
structure BindsAt (w : World) (p : Option Addr) (n : Nat) (l : List Bn) : Prop where
  len : n = l.length
  small : n ≤ maxLen
  cells : ∀ i (h : i < l.length), ∃ b off a c, p = some ⟨b, off, none⟩ ∧ BdAt w b (off + i * 4) l[i] a c
  fits : ∀ x ∈ l, x.1.size ≤ maxLen
theorem BindsAt.below {w w' : World} {p : Option Addr} {n : Nat} {l : List Bn} (h : BindsAt w p n l) (hb : Below w.heap.size w w') : BindsAt w' p n l :=
  ⟨h.len, h.small, fun i hi => let ⟨b, off, a, c, h1, h2⟩ := h.cells i hi; ⟨b, off, a, c, h1, h2.below hb⟩, h.fits⟩
/-- The text of binds. -/
def bindsS (l : List Sym) : Bool → List Bn → List UInt8
  | _, [] => []
  | f, x :: r => (if f then [] else [44, 32]) ++ (x.1.data.toList ++ [32, 45, 62, 32] ++ showN l x.2.1 x.2.2) ++ bindsS l false r
theorem bindsS_snoc (l : List Sym) : ∀ (f : Bool) (ts : List Bn) (t : Bn), bindsS l f (ts ++ [t]) = bindsS l f ts ++ ((if f && ts.isEmpty then [] else [44, 32]) ++ (t.1.data.toList ++ [32, 45, 62, 32] ++ showN l t.2.1 t.2.2))
  | f, [], t => by cases f <;> simp [bindsS]
  | f, s :: ts, t => by
    show (if f then [] else [44, 32]) ++ (s.1.data.toList ++ [32, 45, 62, 32] ++ showN l s.2.1 s.2.2) ++ bindsS l false (ts ++ [t]) = (if f then [] else [44, 32]) ++ (s.1.data.toList ++ [32, 45, 62, 32] ++ showN l s.2.1 s.2.2) ++ bindsS l false ts ++ _
    rw [bindsS_snoc l false ts t]
    simp [List.append_assoc]
theorem bindsS_len (l : List Sym) (f : Bool) : ∀ (ts us : List Bn), (bindsS l f ts).length ≤ (bindsS l f (ts ++ us)).length
  | ts, [] => by simp
  | ts, u :: us => by
    have h1 := bindsS_len l f (ts ++ [u]) us
    rw [List.append_assoc, List.singleton_append, bindsS_snoc] at h1
    simp only [List.length_append] at h1 ⊢
    omega
theorem bindsS_take (l : List Sym) (f : Bool) (ts : List Bn) (j : Nat) : (bindsS l f (ts.take j)).length ≤ (bindsS l f ts).length := by
  have := bindsS_len l f (ts.take j) (ts.drop j)
  rwa [List.take_append_drop] at this
theorem take_next {α : Type} {l : List α} {i : Nat} (h : i < l.length) : l.take (i + 1) = l.take i ++ [l[i]] := by
  rw [List.take_add_one, List.getElem?_eq_getElem h]; rfl
theorem ba_of {o : ByteArray} {L : List UInt8} (h : o.data.toList = L) : o = ⟨L.toArray⟩ := by
  apply ByteArray.ext
  rw [← h, Array.toArray_toList]
theorem rshow_any (S : Option Addr) (n cap : Nat) (l : List Sym) (x : ByteArray × Int) (m : Fo) (a : Option Addr) (c : Nat) (w : World) (hx : InX l x) (hm : InF l m) (hS : SigAt w S n l) (hT : TmAt w x a c m) (hlen : (showN l x m).length ≤ 140737488355328) :
    Calls Try.prog 24 #[.slice S n cap, .agg #[.string x.1, .int .i64 x.2, .slice a (lenF m) c]] w fun e w' => e = .returned (.string ⟨(showN l x m).toArray⟩) ∧ Below w.heap.size w w' := by
  refine (rshow_all (nodesF m + 1) x m a c w (Nat.lt_succ_self _) hx hm hS hT hlen).mono ?_
  rintro e w' ⟨⟨o, rfl, ho⟩, hb⟩
  exact ⟨by rw [ba_of ho], hb⟩
/-- What is written of an equation. -/
def eqS (l : List Sym) (A B : Tn) : List UInt8 := showN l A.1 A.2 ++ [32, 61, 32] ++ showN l B.1 B.2
theorem ba_list (L : List UInt8) : (⟨L.toArray⟩ : ByteArray).data.toList = L := rfl

set_option maxRecDepth 100000 in
set_option maxHeartbeats 2000000 in
theorem rshowE_any (S : Option Addr) (n cap : Nat) (l : List Sym) (A B : Tn) (a b : Option Addr) (c d : Nat) (w : World) (hA : InX l A.1 ∧ InF l A.2) (hB : InX l B.1 ∧ InF l B.2) (hS : SigAt w S n l) (tA : TmAt w A.1 a c A.2) (tB : TmAt w B.1 b d B.2) (hlen : (eqS l A B).length ≤ 140737488355328) :
    Calls Try.prog 25 #[.slice S n cap, .agg #[.string A.1.1, .int .i64 A.1.2, .slice a (lenF A.2) c, .string B.1.1, .int .i64 B.1.2, .slice b (lenF B.2) d]] w fun e w' => e = .returned (.string ⟨(eqS l A B).toArray⟩) ∧ Below w.heap.size w w' := by
  have hl : (showN l A.1 A.2).length + 3 + (showN l B.1 B.2).length ≤ 140737488355328 := by
    unfold eqS at hlen
    simp only [List.length_append, List.length_cons, List.length_nil] at hlen
    omega
  have hs : ∃ o p : ByteArray, o = ⟨(showN l A.1 A.2).toArray⟩ ∧ p = ⟨(showN l B.1 B.2).toArray⟩ := ⟨_, _, rfl, rfl⟩
  obtain ⟨o, p, ho, hp⟩ := hs
  have HA : Hid (∀ W, Below w.heap.size w W → Calls Try.prog 24 #[.slice S n cap, .agg #[.string A.1.1, .int .i64 A.1.2, .slice a (lenF A.2) c]] W fun e w' => e = .returned (.string o) ∧ Below W.heap.size W w') := hid fun W hW => by
    rw [ho]; exact rshow_any S n cap l A.1 A.2 a c W hA.1 hA.2 (hS.below hW) (tA.below hW) (by omega)
  have HB : Hid (∀ W, Below w.heap.size w W → Calls Try.prog 24 #[.slice S n cap, .agg #[.string B.1.1, .int .i64 B.1.2, .slice b (lenF B.2) d]] W fun e w' => e = .returned (.string p) ∧ Below W.heap.size W w') := hid fun W hW => by
    rw [hp]; exact rshow_any S n cap l B.1 B.2 b d W hB.1 hB.2 (hS.below hW) (tB.below hW) (by omega)
  have hoz : o.size = (showN l A.1 A.2).length := by rw [ho]; rfl
  have hpz : p.size = (showN l B.1 B.2).length := by rw [hp]; rfl
  have hsum : o.size + 3 + p.size ≤ 140737488355328 := by omega
  have hres : (⟨(eqS l A B).toArray⟩ : ByteArray) = o ++ (⟨#[32, 61, 32]⟩ : ByteArray) ++ p := by
    refine (ba_of ?_).symm
    rw [ba_app, ba_app, ho, hp, ba_list, ba_list]
    rfl
  rw [hres]
  have h1 : (o ++ (⟨#[32, 61, 32]⟩ : ByteArray)).size = o.size + 3 := by rw [ByteArray.size_append]; rfl
  have h2 : (o ++ (⟨#[32, 61, 32]⟩ : ByteArray)).size + p.size ≤ 140737488355328 := by omega
  have h3 : o.size ≤ 140737488355328 := by omega
  have h4 : p.size ≤ 140737488355328 := by omega
  have h5 : (o ++ (⟨#[32, 61, 32]⟩ : ByteArray)).size ≤ 140737488355328 := by omega
  clear hlen hl ho hp hoz hpz hsum hres h1 hS tA tB hA hB
  have B0 := alloc_below0 w (.cells #[.string A.1.1, .int .i64 A.1.2, .slice a (lenF A.2) c, .string B.1.1, .int .i64 B.1.2, .slice b (lenF B.2) d] 35)
  have hn := World.alloc_heap_new w (.cells #[.string A.1.1, .int .i64 A.1.2, .slice a (lenF A.2) c, .string B.1.1, .int .i64 B.1.2, .slice b (lenF B.2) d] 35)
  have L0 := hid B0
  clear B0
  go_enter Try.func25, Try.ntmps25
  go_upto_region 1 with fail
  generalize w.alloc (.cells #[.string A.1.1, .int .i64 A.1.2, .slice a (lenF A.2) c, .string B.1.1, .int .i64 B.1.2, .slice b (lenF B.2) d] 35) = V0 at hn L0 ⊢
  have hne := later_some V0
  have d0 := later_cell (cell_box (i := 0) hn rfl); have d1 := later_cell (cell_box (i := 1) hn rfl); have d2 := later_cell (cell_box (i := 2) hn rfl)
  have d3 := later_cell (cell_box (i := 3) hn rfl); have d4 := later_cell (cell_box (i := 4) hn rfl); have d5 := later_cell (cell_box (i := 5) hn rfl)
  have HA1 : Hid (∀ W, Below V0.heap.size V0 W → Calls Try.prog 24 #[.slice S n cap, .agg #[.string A.1.1, .int .i64 A.1.2, .slice a (lenF A.2) c]] W fun e w' => e = .returned (.string o) ∧ Below W.heap.size W w') := hid fun W hW => HA.out W (L0.out.trans (hW.mono L0.out.size))
  have HB1 : Hid (∀ W, Below V0.heap.size V0 W → Calls Try.prog 24 #[.slice S n cap, .agg #[.string B.1.1, .int .i64 B.1.2, .slice b (lenF B.2) d]] W fun e w' => e = .returned (.string p) ∧ Below W.heap.size W w') := hid fun W hW => HB.out W (L0.out.trans (hW.mono L0.out.size))
  clear HA HB hn
  refine wp_region_later (by kernel_rfl) (by kernel_rfl) ?_
  repeat (go_big_quiet_step (first | (go_at_call 24; with_reducible refine calls_later (HA1.out _ ?_); exact Later.below _) | (go_at_call 24; with_reducible refine calls_later (HB1.out _ ?_); exact Later.below _) | fail))
  refine wpQuiet_nil ?_
  intro _ hw'
  obtain ⟨b3, hw''⟩ := hw'
  subst hw''
  clear d0 d1 d2 d3 d4 d5 hne
  go_wp2
  go_ret
  exact ⟨rfl, L0.out.trans (b3.below.mono L0.out.size)⟩

set_option maxRecDepth 100000 in
set_option maxHeartbeats 4000000 in
theorem rshowB_any (S : Option Addr) (n cap : Nat) (l : List Sym) (P : Option Addr) (m pc : Nat) (bl : List Bn) (w : World) (hS : SigAt w S n l) (hP : BindsAt w P m bl) (hin : ∀ x ∈ bl, InX l x.2.1 ∧ InF l x.2.2) (hlen : (bindsS l true bl).length ≤ 140737488355328) :
    Calls Try.prog 26 #[.slice S n cap, .slice P m pc] w fun e w' => e = .returned (.string ⟨(bindsS l true bl).toArray⟩) ∧ Below w.heap.size w w' := by
  have HS := hid hS; have HP := hid hP
  have hml := hP.len
  have hsm := hP.small
  unfold maxLen at hsm
  have HLN := hid hlen; have HIN := hid hin
  clear hS hP hlen hin
  go_enter Try.func26, Try.ntmps26
  go_wp2_with fail
  go_loopw [5, 6] (fun oo ov wr => ∃ (k : Nat) (o : ByteArray), ov = .int .i64 k ∧ k ≤ m ∧ oo = .string o ∧ o.data.toList = bindsS l true (bl.take k) ∧ Below w.heap.size w wr) (fun _ ov _ => m - (intOf ov).toNat)
  case atStart => exact ⟨0, ⟨#[]⟩, rfl, Nat.zero_le _, rfl, by simp [bindsS], Below.refl _ _⟩
  case round =>
    obtain ⟨k, o, rfl, hk, rfl, ho, hbr⟩ := hrel
    have HBr := hid hbr
    have HO := hid ho
    have hosz := ba_len ho
    clear hbr ho
    by_cases hlt : k < m
    · have hkl : k < bl.length := by omega
      obtain ⟨bb, off, ta, tc, rfl, bd0⟩ := HP.out.cells k hkl
      obtain ⟨x, hx⟩ : ∃ x, bl[k] = x := ⟨_, rfl⟩
      have hst := take_next hkl
      have hmem : bl[k] ∈ bl := List.getElem_mem hkl
      obtain ⟨hi1, hi2⟩ := HIN.out _ hmem
      have hfx := HP.out.fits _ hmem
      rw [hx] at bd0 hst hi1 hi2 hfx
      have hsn := bindsS_snoc l true (bl.take k) x
      rw [← hst] at hsn
      have hln := bindsS_take l true bl (k + 1)
      have hln2 := hln
      rw [hsn] at hln2
      simp only [List.length_append, List.length_cons, List.length_nil] at hln2
      have hvz : x.1.data.toList.length = x.1.size := rfl
      rw [hvz, ← hosz] at hln2
      have bd := bd0.below HBr.out
      obtain ⟨sh, hsh⟩ : ∃ sh : ByteArray, sh = ⟨(showN l x.2.1 x.2.2).toArray⟩ := ⟨_, rfl⟩
      have hshz : sh.size = (showN l x.2.1 x.2.2).length := by rw [hsh]; rfl
      rw [← hshz] at hln2
      have hLN := HLN.out
      have HC : Hid (∀ W, Below wr.heap.size wr W → Calls Try.prog 24 #[.slice S n cap, .agg #[.string x.2.1.1, .int .i64 x.2.1.2, .slice ta (lenF x.2.2) tc]] W fun e w' => e = .returned (.string sh) ∧ Below W.heap.size W w') := hid fun W hW => by
        rw [hsh]; exact rshow_any S n cap l x.2.1 x.2.2 ta tc W hi1 hi2 ((HS.out.below HBr.out).below hW) (bd.tm.below hW) (by omega)
      have hne := later_some wr
      have e0 := later_cell bd.var; have e1 := later_cell bd.name; have e2 := later_cell bd.sym; have e3 := later_cell bd.list
      have HSN := hid hsn; have HSH := hid hsh
      by_cases hk0 : k = 0
      · subst hk0
        have hb1 : o.size + x.1.size + 4 + sh.size ≤ 140737488355328 := by
          simp at hln2; omega
        have z1 : (o ++ x.1).size = o.size + x.1.size := ByteArray.size_append
        have z2 : (o ++ x.1 ++ (⟨#[32, 45, 62, 32]⟩ : ByteArray)).size = o.size + x.1.size + 4 := by rw [ByteArray.size_append, z1]; rfl
        have y0 : o.size ≤ 140737488355328 := by omega
        have y1 : (o ++ x.1).size ≤ 140737488355328 := by omega
        have y2 : (o ++ x.1 ++ (⟨#[32, 45, 62, 32]⟩ : ByteArray)).size ≤ 140737488355328 := by omega
        have y3 : sh.size ≤ 140737488355328 := by omega
        have y4 : x.1.size ≤ 140737488355328 := by omega
        have y5 : (o ++ x.1 ++ (⟨#[32, 45, 62, 32]⟩ : ByteArray)).size + sh.size ≤ 140737488355328 := by omega
        simp only [Nat.zero_mul, Nat.add_zero] at e0 e1 e2 e3
        clear hln2 hln hsn hsh hshz hosz hvz z1 z2 hb1 bd bd0 hi1 hi2 hst hmem hx hLN hfx
        go_wp2_with fail
        refine wp_region_later (by kernel_rfl) (by kernel_rfl) ?_
        repeat (go_big_quiet_step (first | (go_at_call 24; with_reducible refine calls_later (HC.out _ ?_); exact Later.below _) | fail))
        refine wpQuiet_nil ?_
        intro _ hw'
        obtain ⟨b3, hw''⟩ := hw'
        subst hw''
        clear e0 e1 e2 e3 hne
        go_wp2
        go_roundw
        case rel =>
          refine ⟨1, _, by go_num, by omega, rfl, ?_, HBr.out.trans (b3.below.mono HBr.out.size)⟩
          rw [HSN.out, ba_app, ba_app, ba_app, HO.out, HSH.out, ba_list]
          simp [bindsS]
        case measure => simp [intOf]; omega
      · have hne2 : (true && (bl.take k).isEmpty) = false := by
          have : (bl.take k).length = k := by rw [List.length_take]; omega
          cases h : bl.take k with
          | nil => rw [h] at this; simp at this; omega
          | cons => rfl
        have hk1 : (0 : Int) < (k : Int) := by omega
        have hb1 : o.size + 2 + x.1.size + 4 + sh.size ≤ 140737488355328 := by
          rw [hne2] at hln2
          simp at hln2
          omega
        have z0 : (o ++ (⟨#[44, 32]⟩ : ByteArray)).size = o.size + 2 := by rw [ByteArray.size_append]; rfl
        have z1 : (o ++ (⟨#[44, 32]⟩ : ByteArray) ++ x.1).size = o.size + 2 + x.1.size := by rw [ByteArray.size_append, z0]
        have z2 : (o ++ (⟨#[44, 32]⟩ : ByteArray) ++ x.1 ++ (⟨#[32, 45, 62, 32]⟩ : ByteArray)).size = o.size + 2 + x.1.size + 4 := by rw [ByteArray.size_append, z1]; rfl
        have y0 : o.size ≤ 140737488355328 := by omega
        have y00 : (o ++ (⟨#[44, 32]⟩ : ByteArray)).size ≤ 140737488355328 := by omega
        have y1 : (o ++ (⟨#[44, 32]⟩ : ByteArray) ++ x.1).size ≤ 140737488355328 := by omega
        have y2 : (o ++ (⟨#[44, 32]⟩ : ByteArray) ++ x.1 ++ (⟨#[32, 45, 62, 32]⟩ : ByteArray)).size ≤ 140737488355328 := by omega
        have y3 : sh.size ≤ 140737488355328 := by omega
        have y4 : x.1.size ≤ 140737488355328 := by omega
        have HNE := hid hne2
        clear hln2 hln hsn hsh hshz hosz hvz z0 z1 z2 hb1 bd bd0 hi1 hi2 hst hmem hx hLN hfx hne2
        go_wp2_with fail
        refine wp_region_later (by kernel_rfl) (by kernel_rfl) ?_
        repeat (go_big_quiet_step (first | (go_at_call 24; with_reducible refine calls_later (HC.out _ ?_); exact Later.below _) | fail))
        refine wpQuiet_nil ?_
        intro _ hw'
        obtain ⟨b3, hw''⟩ := hw'
        subst hw''
        clear e0 e1 e2 e3 hne
        go_wp2
        go_roundw
        case rel =>
          refine ⟨k + 1, _, by go_num, by omega, rfl, ?_, HBr.out.trans (b3.below.mono HBr.out.size)⟩
          rw [HSN.out, HNE.out, ba_app, ba_app, ba_app, ba_app, HO.out, HSH.out, ba_list]
          simp
        case measure => simp [intOf]; omega
    · have hkl : k = bl.length := by omega
      have ho := HO.out
      rw [hkl, List.take_length] at ho
      have HO2 := hid (ba_of ho)
      clear ho hosz hkl
      go_wp2
      go_ret
      exact ⟨congrArg (fun o => Ending.returned (.string o)) HO2.out, HBr.out⟩
end Go.Proofs.Ytkcbhbkldcebiaa

namespace Go.Proofs.Ytkcbhbkldcebiaa
open Go.RowKit Go.Deep

/-- A list under way that has nothing to do with the blocks X. -/
structure LstP (X : Nat → Prop) (B : Nat) (W : World) (v : Value) (ks : List Kv) : Prop where
  row : W.ownsRow B 28 3 v ks.length (kvCells ks)
  far : ∀ g, v.ownBlock = some g → ¬ X g
  own : ∀ k ∈ ks, OwnTm false (fun q => (B ≤ q ∧ some q ≠ v.ownBlock) ∧ ¬ X q) W k.x k.a k.c k.l
theorem LstP.lst {X : Nat → Prop} {B : Nat} {W : World} {v : Value} {ks : List Kv} (h : LstP X B W v ks) : Lst B W v ks := ⟨h.row, fun k hk => (h.own k hk).mono (fun _ _ hq => hq.1)⟩
theorem LstP.nil (X : Nat → Prop) (B : Nat) (W : World) : LstP X B W (.slice none 0 0) [] := ⟨World.ownsRow_nil _ _ _ _, fun g hg => by simp [Value.ownBlock] at hg, by simp⟩
theorem LstP.less {X Y : Nat → Prop} {B : Nat} {W : World} {v : Value} {ks : List Kv} (h : LstP X B W v ks) (hY : ∀ q, Y q → X q) : LstP Y B W v ks := ⟨h.row, fun g hg hy => h.far g hg (hY g hy), fun k hk => (h.own k hk).mono (fun _ _ hq => ⟨hq.1, fun hy => hq.2 (hY _ hy)⟩)⟩
/-- Blocks that are not there yet. -/
theorem LstP.more {X Y : Nat → Prop} {B : Nat} {W : World} {v : Value} {ks : List Kv} (h : LstP X B W v ks) (hY : ∀ q, Y q → X q ∨ W.heap.size ≤ q) : LstP Y B W v ks := ⟨h.row, fun g hg hy => (hY g hy).elim (h.far g hg) (fun h1 => by have := h.lst.lt hg; omega), fun k hk => (h.own k hk).mono (fun q hlt hq => ⟨hq.1, fun hy => (hY q hy).elim hq.2 (fun h1 => by omega)⟩)⟩
/-- Only blocks of X have turned. -/
theorem LstP.keep {X : Nat → Prop} {B : Nat} {W W' : World} {v : Value} {ks : List Kv} (h : LstP X B W v ks) (hk : ∀ q, q < W.heap.size → ¬ X q → B ≤ q → W'.heap[q]? = W.heap[q]?) : LstP X B W' v ks :=
  ⟨owns_block h.row (fun g hg => hk g (h.lst.lt hg) (h.far g hg) (owns_cells h.row hg).1), h.far, fun k hk' => (h.own k hk').keep (fun q hq hlt => hk q hlt hq.2 hq.1.1)⟩
theorem LstP.below {X : Nat → Prop} {B : Nat} {W W' : World} {v : Value} {ks : List Kv} (h : LstP X B W v ks) (hb : Below W.heap.size W W') : LstP X B W' v ks := h.keep (fun q hq _ _ => hb.block q hq)
theorem note_memP {X : Nat → Prop} {w W3 w4 W5 : World} {B b g cap k' : Nat} {sg tv : Value} {s : ByteArray} {ks : List Kv} {k : Kv} {o : Obj} (hF : FrB B w W3) (hL : LstP X b w tv ks) (hX : ∀ q, X q → q < w.heap.size) (hb : B < b) (hbw : b ≤ w.heap.size) (hm : OwnTm false (fun q => w.heap.size < q) W3 k.x k.a k.c k.l)
    (hgrow : (W3.alloc o).grownBy w4 tv.ownBlock) (hat : tv.ownBlock = some g ∨ g = W3.heap.size + 1) (hown : W5.ownsRow b 28 3 (.slice (some ⟨g, 0, none⟩) (ks.length + 1) cap) (ks.length + 1) (kvCells ks ++ Kv.cells k))
    (_hbox : RdBox W5 B sg s k' (.slice (some ⟨g, 0, none⟩) (ks.length + 1) cap)) (hlow : Below B w4 W5) (hrest : ∀ q, q ≠ B → q ≠ g → W5.heap[q]? = w4.heap[q]?) :
    LstP (fun q => X q ∨ q = w.heap.size) b W5 (.slice (some ⟨g, 0, none⟩) (ks.length + 1) cap) (ks ++ [k]) ∧ Below B w W5 ∧ (∀ q, q < W3.heap.size → w.heap.size ≤ q → q ≠ B → W5.heap[q]? = W3.heap[q]?) := by
  have hgb : b ≤ g := (owns_cells hown rfl).1
  have hsz := hF.low.size
  have hB1 : ∀ q, q < W3.heap.size → some q ≠ tv.ownBlock → w4.heap[q]? = W3.heap[q]? := fun q hq hn => (hgrow.block q (by rw [World.size_alloc]; omega) hn).trans ((alloc_below0 W3 o).block q hq)
  have hold : ∀ q, tv.ownBlock = some q → q < w.heap.size := fun q hq => hL.lst.lt hq
  have hgn : ∀ q, q < W3.heap.size → some q ≠ tv.ownBlock → q ≠ g := fun q hq hn e => by
    rcases hat with h | h
    · exact hn (by rw [h, e])
    · omega
  have hrest2 : ∀ q, q < W3.heap.size → some q ≠ tv.ownBlock → q ≠ B → W5.heap[q]? = W3.heap[q]? := fun q hq hn hqB => (hrest q hqB (hgn q hq hn)).trans (hB1 q hq hn)
  refine ⟨⟨?_, ?_, fun j hj => ?_⟩, ?_, fun q hq hwq hqB => hrest2 q hq (fun e => by have := hold q e.symm; omega) hqB⟩
  · rw [kvCells_append, List.length_append]
    have e : kvCells [k] = Kv.cells k := by simp [kvCells]
    rw [e]
    exact hown
  · intro g' hg'
    have hg'' : g = g' := Option.some.inj hg'
    subst hg''
    rintro (hx | hx)
    · rcases hat with h | h
      · exact hL.far _ h hx
      · have := hX _ hx; omega
    · rcases hat with h | h
      · have := hold _ h; omega
      · omega
  · show OwnTm false (fun q => (b ≤ q ∧ some q ≠ some g) ∧ ¬ (X q ∨ q = w.heap.size)) W5 j.x j.a j.c j.l
    have h2 : OwnTm false (fun q => (b ≤ q ∧ some q ≠ tv.ownBlock) ∧ ¬ (X q ∨ q = w.heap.size)) W3 j.x j.a j.c j.l := by
      rcases List.mem_append.1 hj with hj | hj
      · have h0 : OwnTm false (fun q => (b ≤ q ∧ some q ≠ tv.ownBlock) ∧ ¬ (X q ∨ q = w.heap.size)) w j.x j.a j.c j.l := (hL.own j hj).mono (fun q hq hp => ⟨hp.1, fun h => h.elim hp.2 (fun h => by omega)⟩)
        exact h0.keep (fun q hq hlt => hF.same q hlt (by have := hq.1.1; omega))
      · simp only [List.mem_singleton] at hj
        subst hj
        exact hm.mono (fun q _ hp => ⟨⟨by omega, fun e => by have := hold q e.symm; omega⟩, fun h => h.elim (fun h => by have := hX q h; omega) (fun h => by omega)⟩)
    have h4 : OwnTm false (fun q => ((b ≤ q ∧ some q ≠ tv.ownBlock) ∧ ¬ (X q ∨ q = w.heap.size)) ∧ q ≠ g) W3 j.x j.a j.c j.l := h2.mono (fun q hq hp => ⟨hp, hgn q hq hp.1.2⟩)
    exact (h4.keep (fun q hq hlt => hrest2 q hlt hq.1.1.2 (by have := hq.1.1.1; omega))).mono (fun q _ hq => ⟨⟨hq.1.1.1, fun e => hq.2 (by cases e; rfl)⟩, hq.1.2⟩)
  · have h1 : Below B w W3 := hF.below (fun _ hk => hk ▸ Nat.le_refl _) (by omega)
    have h2 : Below B w (W3.alloc o) := h1.alloc (by omega) _
    have h3 : Below B w w4 := h2.grown hgrow (by rw [World.size_alloc]; omega) (fun q hq => by have := (owns_cells hL.row hq).1; omega)
    exact h3.trans hlow
/-- The two orders of the stores. -/
theorem note_bothP {X : Nat → Prop} {w W3 w4 : World} {B b g cap k' : Nat} {sg tv tv4 : Value} {s : ByteArray} {ks : List Kv} {k z : Kv} {o : Obj} (hF : FrB B w W3) (hL : LstP X b w tv ks) (hX : ∀ q, X q → q < w.heap.size) (hb : B < b) (hbw : b ≤ w.heap.size) (hm : OwnTm false (fun q => w.heap.size < q) W3 k.x k.a k.c k.l)
    (hgrow : (W3.alloc o).grownBy w4 tv.ownBlock) (hat : tv.ownBlock = some g ∨ g = W3.heap.size + 1) (hown : w4.ownsRow b 28 3 (.slice (some ⟨g, 0, none⟩) (ks.length + 1) cap) (ks.length + 1) (kvCells ks ++ Kv.cells z)) (hbox : RdBox w4 B sg s k' tv4) (W5 : World)
    (hW : W5 = ((((w4.setCell ⟨g, ks.length * 3, none⟩ (.string k.x.1)).setCell ⟨g, ks.length * 3 + 1, none⟩ (.int .i64 k.x.2)).setCell ⟨g, ks.length * 3 + 2, none⟩ (.slice k.a (lenF k.l) k.c)).setCell ⟨B, 3, none⟩ (.slice (some ⟨g, 0, none⟩) (ks.length + 1) cap)) ∨
      W5 = ((((w4.setCell ⟨B, 3, none⟩ (.slice (some ⟨g, 0, none⟩) (ks.length + 1) cap)).setCell ⟨g, ks.length * 3, none⟩ (.string k.x.1)).setCell ⟨g, ks.length * 3 + 1, none⟩ (.int .i64 k.x.2)).setCell ⟨g, ks.length * 3 + 2, none⟩ (.slice k.a (lenF k.l) k.c))) :
    RdBox W5 B sg s k' (.slice (some ⟨g, 0, none⟩) (ks.length + 1) cap) ∧ LstP (fun q => X q ∨ q = w.heap.size) b W5 (.slice (some ⟨g, 0, none⟩) (ks.length + 1) cap) (ks ++ [k]) ∧ Below B w W5 ∧ (∀ q, q < W3.heap.size → w.heap.size ≤ q → q ≠ B → W5.heap[q]? = W3.heap[q]?) := by
  have hgb : b ≤ g := (owns_cells hown rfl).1
  have hBg : B ≠ g := by omega
  suffices h : W5.ownsRow b 28 3 (.slice (some ⟨g, 0, none⟩) (ks.length + 1) cap) (ks.length + 1) (kvCells ks ++ Kv.cells k) ∧ RdBox W5 B sg s k' (.slice (some ⟨g, 0, none⟩) (ks.length + 1) cap) ∧ Below B w4 W5 ∧ (∀ q, q ≠ B → q ≠ g → W5.heap[q]? = w4.heap[q]?) by
    obtain ⟨h1, h2, h3, h4⟩ := h
    obtain ⟨n1, n2, n3⟩ := note_memP hF hL hX hb hbw hm hgrow hat h1 h2 h3 h4
    exact ⟨h2, n1, n2, n3⟩
  have hsets : ∀ W : World, Below B W (((W.setCell ⟨g, ks.length * 3, none⟩ (.string k.x.1)).setCell ⟨g, ks.length * 3 + 1, none⟩ (.int .i64 k.x.2)).setCell ⟨g, ks.length * 3 + 2, none⟩ (.slice k.a (lenF k.l) k.c)) := fun W => set_low (set_low (set_low (Below.refl _ W) (by omega) _) (by omega) _) (by omega) _
  rcases hW with rfl | rfl
  · have h1 := (owns_three hown (.string k.x.1) (.int .i64 k.x.2) (.slice k.a (lenF k.l) k.c)).1
    rw [kvCells_len] at h1
    refine ⟨owns_block h1 (fun g' hg' => ?_), ?_, set_low (hsets w4) (Nat.le_refl _) _, fun q hqB hqg => (set_far hqB _).trans (sets_far3 hqg _ _ _)⟩
    · cases hg'
      exact set_far hBg.symm _
    · have h2 : RdBox (((w4.setCell ⟨g, ks.length * 3, none⟩ (.string k.x.1)).setCell ⟨g, ks.length * 3 + 1, none⟩ (.int .i64 k.x.2)).setCell ⟨g, ks.length * 3 + 2, none⟩ (.slice k.a (lenF k.l) k.c)) B sg s k' tv4 := (sets_far3 hBg _ _ _).trans hbox
      exact h2.set3 _
  · have h0 : (w4.setCell ⟨B, 3, none⟩ (.slice (some ⟨g, 0, none⟩) (ks.length + 1) cap)).ownsRow b 28 3 (.slice (some ⟨g, 0, none⟩) (ks.length + 1) cap) (ks.length + 1) (kvCells ks ++ Kv.cells z) := owns_block hown (fun g' hg' => by cases hg'; exact set_far hBg.symm _)
    have h1 := (owns_three h0 (.string k.x.1) (.int .i64 k.x.2) (.slice k.a (lenF k.l) k.c)).1
    rw [kvCells_len] at h1
    exact ⟨h1, (sets_far3 hBg _ _ _).trans (hbox.set3 _), (set_low (Below.refl _ w4) (Nat.le_refl _) _).trans (hsets _), fun q hqB hqg => (sets_far3 hqg _ _ _).trans (set_far hqB _)⟩

theorem note_leafP {X : Nat → Prop} {w W3 w4 : World} {B b g cap k' N : Nat} {sg tv tv4 : Value} {s : ByteArray} {ks : List Kv} {k z : Kv} {o : Obj} (hF : FrB B w W3) (hL : LstP X b w tv ks) (hX : ∀ q, X q → q < w.heap.size) (hb : B < b) (hbw : b ≤ w.heap.size) (hm : OwnTm false (fun q => w.heap.size < q) W3 k.x k.a k.c k.l)
    (hgrow : (W3.alloc o).grownBy w4 tv.ownBlock) (hat : tv.ownBlock = some g ∨ g = W3.heap.size + 1) (hown : w4.ownsRow b 28 3 (.slice (some ⟨g, 0, none⟩) (ks.length + 1) cap) (ks.length + 1) (kvCells ks ++ Kv.cells z)) (hbox : RdBox w4 B sg s k' tv4) {W5 : World}
    (hW : W5 = ((((w4.setCell ⟨g, ks.length * 3, none⟩ (.string k.x.1)).setCell ⟨g, ks.length * 3 + 1, none⟩ (.int .i64 k.x.2)).setCell ⟨g, ks.length * 3 + 2, none⟩ (.slice k.a (lenF k.l) k.c)).setCell ⟨B, 3, none⟩ (.slice (some ⟨g, 0, none⟩) (ks.length + 1) cap)) ∨
      W5 = ((((w4.setCell ⟨B, 3, none⟩ (.slice (some ⟨g, 0, none⟩) (ks.length + 1) cap)).setCell ⟨g, ks.length * 3, none⟩ (.string k.x.1)).setCell ⟨g, ks.length * 3 + 1, none⟩ (.int .i64 k.x.2)).setCell ⟨g, ks.length * 3 + 2, none⟩ (.slice k.a (lenF k.l) k.c)))
    (hXN : XBox W3 N k.x (.slice k.a (lenF k.l) k.c)) (hZ : XBox W3 w.heap.size (⟨#[]⟩, 0) (.slice none 0 0)) (hN : N < W3.heap.size) (hwN : w.heap.size < N) (hBw : B < w.heap.size) :
    ∃ g' cap', (Value.slice (some ⟨g, 0, none⟩) (ks.length + 1) cap) = .slice (some ⟨g', 0, none⟩) (ks.length + 1) cap' ∧ RdBox W5 B sg s k' (.slice (some ⟨g, 0, none⟩) (ks.length + 1) cap) ∧ LstP (fun q => X q ∨ q = w.heap.size) b W5 (.slice (some ⟨g, 0, none⟩) (ks.length + 1) cap) (ks ++ [k]) ∧ Below B w W5 ∧ XBox W5 N k.x (.slice k.a (lenF k.l) k.c) ∧ XBox W5 w.heap.size (⟨#[]⟩, 0) (.slice none 0 0) ∧ (∀ q, q < w.heap.size → q ≠ B → some q ≠ tv.ownBlock → W5.heap[q]? = w.heap[q]?) := by
  obtain ⟨e1, e2, e3, e4⟩ := note_bothP hF hL hX hb hbw hm hgrow hat hown hbox W5 hW
  have hgb : b ≤ g := (owns_cells hown rfl).1
  have hsz := hF.low.size
  refine ⟨g, cap, rfl, e1, e2, e3, (e4 N hN (by omega) (by omega)).trans hXN, (e4 _ (by omega) (Nat.le_refl _) (by omega)).trans hZ, fun q hq hB hn => ?_⟩
  have hqg : q ≠ g := fun e => by
    rcases hat with h | h
    · exact hn (by rw [h, e])
    · omega
  have h7 : W5.heap[q]? = w4.heap[q]? := by
    rcases hW with rfl | rfl
    · exact (set_far hB _).trans (sets_far3 hqg _ _ _)
    · exact (sets_far3 hqg _ _ _).trans (set_far hB _)
  exact h7.trans (((hgrow.block q (by rw [World.size_alloc]; omega) hn).trans ((alloc_below0 W3 o).block q (by omega))).trans (hF.same q hq hB))

/-- How whole ends, what it does not touch, and what the list has nothing to do with. -/
def WholeP (X : Nat → Prop) (B : Nat) (sg : Value) (s : ByteArray) (b : Nat) (tv : Value) (ks : List Kv) (w : World) (res : Except (Int × Nat) (Fo × Nat)) (e : Ending) (w' : World) : Prop := (match res with
    | .error p => e = faultP p.1 p.2
    | .ok (F, k') => ∃ (k : Kv) (tv' : Value), F = .node 0 0 k.x k.l .nil ∧ e = .returned (.agg #[.string k.x.1, .int .i64 k.x.2, .slice k.a (lenF k.l) k.c]) ∧ RdBox w' B sg s k' tv' ∧ LstP X b w' tv' (ks ++ [k]) ∧ (∀ q, q < w.heap.size → q ≠ B → some q ≠ tv.ownBlock → w'.heap[q]? = w.heap[q]?)) ∧ Below B w w'
set_option maxRecDepth 100000 in
set_option maxHeartbeats 4000000 in
theorem whole_p {X : Nat → Prop} {w0 : World} {B : Nat} {S : Option Addr} {n cap : Nat} {l : List Sym} {s : ByteArray} (hB0 : w0.heap.size ≤ B) (hs : s.size ≤ 800) (hS : SigAt w0 S n l) (b : Nat) (hb : B < b) (k : Nat) (tv : Value) (ks : List Kv) (w : World) (hk : k ≤ s.size) (hlen : ks.length ≤ k) (hB : RdBox w B (.slice S n cap) s k tv) (hL : Below w0.heap.size w0 w) (hT : LstP X b w tv ks) (hX : ∀ q, X q → q < w.heap.size) (hbw : b ≤ w.heap.size) :
    Calls Try.prog 32 #[.pointer (some ⟨B, 0, none⟩)] w fun e w' => WholeP X B (.slice S n cap) s b tv ks w (rdC s l false k) e w' := by
  have B0 := alloc_below0 w (.cells #[.string ⟨#[]⟩, .int .i64 0, .slice none 0 0] 28)
  have ht := term_all (tv := tv) (cap := cap) hB0 hs hS (s.size - k) k (w.alloc (.cells #[.string ⟨#[]⟩, .int .i64 0, .slice none 0 0] 28)) hk (Nat.le_refl _) (hB.below B0) (hL.trans (B0.mono hL.size))
  go_enter Try.func32, Try.ntmps32
  go_wp2_with fail
  cases hr : rdC s l false k with
  | error p =>
    rw [hr] at ht
    unfold TermEnd at ht
    dsimp only at ht
    unfold faultP at ht
    refine ht.mono ?_
    rintro e w2 ⟨rfl, hf2⟩
    go_wp2
    exact ⟨rfl, by rw [hr]; exact ⟨rfl, ((Fr.of_below B0).trans hf2).below (fun _ hk => hk ▸ Nat.le_refl _) (Nat.le_of_lt hB.lt)⟩⟩
  | ok q =>
    obtain ⟨G, k'⟩ := q
    have hk2 := rdC_to hk hr
    rw [hr] at ht
    unfold TermEnd at ht
    dsimp only at ht
    refine ht.mono ?_
    rintro e w2 ⟨⟨x, m, ta, tc, rfl, rfl, ho2, hrb2⟩, hf2⟩
    go_wp2_with fail
    have hz1 := hf2.low.size
    rw [World.size_alloc] at hz1
    obtain ⟨i0, hi, hz0, hz1', hz2⟩ := info_parts Try.info28
    have B2 := alloc_below0 w2 (.cells #[.string x.1, .int .i64 x.2, .slice ta (lenF m) tc] 28)
    have X3 : Hid (XBox (w2.alloc (.cells #[.string x.1, .int .i64 x.2, .slice ta (lenF m) tc] 28)) w2.heap.size x (.slice ta (lenF m) tc)) := World.alloc_heap_new w2 _
    have Z0 : XBox (w.alloc (.cells #[.string ⟨#[]⟩, .int .i64 0, .slice none 0 0] 28)) w.heap.size (⟨#[]⟩, 0) (.slice none 0 0) := World.alloc_heap_new w _
    have Z2 : XBox w2 w.heap.size (⟨#[]⟩, 0) (.slice none 0 0) := (hf2.same w.heap.size (by rw [World.size_alloc]; omega) (by have := hB.lt; omega)).trans Z0
    have Z3 := hid (Z2.below B2)
    have R3 := hid (hrb2.below B2)
    have F3 : Hid (FrB B w (w2.alloc (.cells #[.string x.1, .int .i64 x.2, .slice ta (lenF m) tc] 28))) := hid (((Fr.of_below B0).trans hf2).trans (Fr.of_below B2))
    have O3 : Hid (OwnTm false (fun q => w.heap.size < q) (w2.alloc (.cells #[.string x.1, .int .i64 x.2, .slice ta (lenF m) tc] 28)) x ta tc m) := hid ((ho2.mono (fun q _ hq => by rw [World.size_alloc] at hq; omega)).below B2)
    have LT := hid hT
    obtain ⟨a0, c0, htv, hcc, hcm, hrow0, hnone, hsome⟩ := row_of_owns hT.row
    have L3 : Hid (Lst b (w2.alloc (.cells #[.string x.1, .int .i64 x.2, .slice ta (lenF m) tc] 28)) tv ks) := hid (hT.lst.fr F3.out hb)
    have hs3 : Hid ((w2.alloc (.cells #[.string x.1, .int .i64 x.2, .slice ta (lenF m) tc] 28)).heap.size = w2.heap.size + 1) := by show _ = _; rw [World.size_alloc]
    have hbB := hB.lt
    clear ht hf2 hrb2 ho2 Z0 Z2 B2 B0 hT hL hrow0 hnone hsome hB hcc hcm
    subst htv
    have HW : Hid (w.heap.size < w2.heap.size) := by show _ < _; omega
    have q3 := R3.out.c3; have f3 := R3.out.f (i := 3)
    have x0 := X3.out.c0; have x1 := X3.out.c1; have x2 := X3.out.c2
    generalize w2.alloc (.cells #[.string x.1, .int .i64 x.2, .slice ta (lenF m) tc] 28) = W3 at X3 Z3 R3 F3 O3 L3 hs3 q3 f3 x0 x1 x2 ⊢
    have BZ := alloc_below0 W3 (.cells #[.string ⟨#[]⟩, .int .i64 0, .slice none 0 0] 28)
    have x0' := (X3.out.below BZ).c0; have x1' := (X3.out.below BZ).c1; have x2' := (X3.out.below BZ).c2; have q3' := (R3.out.below BZ).c3
    clear BZ
    have hidx : ((ks.length : Nat) : Int) < (ks.length : Int) + 1 := by omega
    go_cut [13] (fun v wc => ∃ g cap', v = .slice (some ⟨g, 0, none⟩) (ks.length + 1) cap' ∧ RdBox wc B (.slice S n cap) s k' v ∧ LstP (fun q => X q ∨ q = w.heap.size) b wc v (ks ++ [⟨x, m, ta, tc⟩]) ∧ Below B w wc ∧ XBox wc w2.heap.size x (.slice ta (lenF m) tc) ∧ XBox wc w.heap.size (⟨#[]⟩, 0) (.slice none 0 0) ∧ (∀ q, q < w.heap.size → q ≠ B → some q ≠ (Value.slice a0 ks.length c0).ownBlock → wc.heap[q]? = w.heap[q]?))
    case first =>
      go_region_law (refine step_append_lies _ (by rfl) (.tmp 9) (.tmp 12) 26 (by rfl) b 28 i0 _ 3 48 Try.underlying26 hi hz0 hz1' hz2 rfl (by decide) (.slice a0 ks.length c0) ks.length (kvCells ks) (by rfl) (owns_below L3.out.row ((Below.refl _ W3).alloc (Nat.le_refl _) _).drew) ⟨W3.heap.size, 0, none⟩ 1 1 (Kv.cells ⟨(⟨#[]⟩, 0), .nil, none, 0⟩) (by rfl) rfl (World.news_of_block (heap_alloc_new W3 _)) (kv_one _) (by decide) (by unfold maxLen; omega) (by omega) (by simp; have := hs3.out; have := HW.out; omega) _ rfl ?_; intro g4 cap4 w4 hown4 hgrow4 hat4 hlt4; have hg4 : b ≤ g4 := (owns_cells hown4 rfl).1; have hgB : ¬ g4 = B := (by omega); have hBg : ¬ B = g4 := fun e => hgB e.symm; have R4 : Hid (RdBox w4 B (.slice S n cap) s k' (.slice a0 ks.length c0)) := hid ((hgrow4.block B (by have := hs3.out; have := HW.out; simp; omega) (fun e => by have := (owns_cells L3.out.row e.symm).1; omega)).trans (R3.out.below (alloc_below0 W3 _).drew)); have r3 := R4.out.c3; have rf3 := R4.out.f (i := 3); have z0 : w4.cell? ⟨g4, ks.length * 3, none⟩ = some (.string ⟨#[]⟩) := owns_slot hown4 0 (by simp [Kv.cells]); have z1 : w4.cell? ⟨g4, ks.length * 3 + 1, none⟩ = some (.int .i64 0) := owns_slot hown4 1 (by simp [Kv.cells]); have z2 : w4.cell? ⟨g4, ks.length * 3 + 2, none⟩ = some (.slice none 0 0) := owns_slot hown4 2 (by simp [Kv.cells]); have y0 := hown4.frozenAt (ks.length * 3); have y1 := hown4.frozenAt (ks.length * 3 + 1); have y2 := hown4.frozenAt (ks.length * 3 + 2); have HO4 := hid hown4; have HG4 := hid (undrew hgrow4); have HA4 := hid hat4; clear hown4 hgrow4 hat4)
      all_goals (go_wp2_with fail; go_meet)
      all_goals
        refine note_leafP (k := ⟨x, m, ta, tc⟩) F3.out LT.out hX hb hbw O3.out HG4.out (HA4.out.imp id (fun e => by simpa using e)) HO4.out R4.out ?_ X3.out Z3.out (by have := hs3.out; omega) HW.out hbB
        first
          | (exact .inl (by with_reducible rfl))
          | (exact .inr (by with_reducible rfl))
    case rest =>
      obtain ⟨g, cap', rfl, hR, hLs, hlow, hX, hZ, hrst⟩ := hcut
      have HRST := hid hrst
      have HR := hid hR; have HLs := hid hLs; have HL := hid hlow; have HZ := hid hZ
      have u0 := hX.c0; have u1 := hX.c1; have u2 := hX.c2
      have z0 := hZ.c0; have z1 := hZ.c1; have z2 := hZ.c2
      have y0 := hZ.f (k := 0); have y1 := hZ.f (k := 1); have y2 := hZ.f (k := 2)
      clear hR hLs hlow hZ hX hrst X3 Z3 R3 F3 O3 L3 LT
      go_wp2
      refine bodyPost_ret (results_cell_row rfl _ _ w.heap.size 28 #[.string x.1, .int .i64 x.2, .slice ta (lenF m) tc] (0, 0) _ rfl (HZ.out.all (x := x) _) Try.underlying28 rfl Try.size28) rfl ?_
      exact ⟨⟨⟨x, m, ta, tc⟩, _, rfl, rfl, (sets_far (by omega) _ _ _).trans HR.out, (HLs.out.keep (fun q _ hq _ => sets_far (fun e => hq (.inr e)) _ _ _)).less (fun _ h => .inl h), fun q hq hB hn => (sets_far (by omega) _ _ _).trans (HRST.out q hq hB hn)⟩, sets_below HL.out (by omega) _ _ _⟩
end Go.Proofs.Ytkcbhbkldcebiaa

namespace Go.Proofs.Ytkcbhbkldcebiaa
open Go.RowKit Go.Deep

/-- A bind's box. -/
def BBox (W : World) (B : Nat) (v : ByteArray) (x : ByteArray × Int) (u : Value) : Prop := W.heap[B]? = some (.cells #[.string v, .string x.1, .int .i64 x.2, u] 50 (0, 0))
theorem BBox.c {W : World} {B : Nat} {v : ByteArray} {x : ByteArray × Int} {u : Value} (h : BBox W B v x u) (i : Nat) (hi : i < 4 := by decide) : W.cell? ⟨B, i, none⟩ = some ((#[.string v, .string x.1, .int .i64 x.2, u] : Array Value)[i]'hi) := by
  simp [World.cell?, show W.heap[B]? = _ from h]
theorem BBox.f {W : World} {B : Nat} {v : ByteArray} {x : ByteArray × Int} {u : Value} (h : BBox W B v x u) (i : Nat) : W.frozen? ⟨B, i, none⟩ = false := by simp [World.frozen?, show W.heap[B]? = _ from h]
theorem BBox.lt {W : World} {B : Nat} {v : ByteArray} {x : ByteArray × Int} {u : Value} (h : BBox W B v x u) : B < W.heap.size := (Array.getElem?_eq_some_iff.1 h).1
theorem bbox_all {W : World} {B : Nat} {v : ByteArray} {x : ByteArray × Int} {u : Value} (h : BBox W B v x u) (v' : ByteArray) (x' : ByteArray × Int) (u' : Value) :
    BBox ((((W.setCell ⟨B, 0, none⟩ (.string v')).setCell ⟨B, 1, none⟩ (.string x'.1)).setCell ⟨B, 2, none⟩ (.int .i64 x'.2)).setCell ⟨B, 3, none⟩ u') B v' x' u' := by
  have := block_set (k := 3) (block_set (k := 2) (block_set (k := 1) (block_set (k := 0) h (.string v')) (.string x'.1)) (.int .i64 x'.2)) u'
  exact this
theorem sets_far4 {W : World} {B q : Nat} (h : q ≠ B) (a b c d : Value) : ((((W.setCell ⟨B, 0, none⟩ a).setCell ⟨B, 1, none⟩ b).setCell ⟨B, 2, none⟩ c).setCell ⟨B, 3, none⟩ d).heap[q]? = W.heap[q]? := (set_far h d).trans (sets_far h a b c)
theorem sets_low4 {n0 : Nat} {w W : World} {B : Nat} (hb : Below n0 w W) (h : n0 ≤ B) (a b c d : Value) : Below n0 w ((((W.setCell ⟨B, 0, none⟩ a).setCell ⟨B, 1, none⟩ b).setCell ⟨B, 2, none⟩ c).setCell ⟨B, 3, none⟩ d) := set_low (sets_below hb h a b c) h d
/-- A variable, the sign, a term, as they are read. -/
def bindC (s : ByteArray) (l : List Sym) (k : Nat) : Except (Int × Nat) (ByteArray × Tn × Nat) := match wantP s k 2 with
  | .error e => .error e
  | .ok r => match wantP s r.to 7 with
    | .error e => .error e
    | .ok q => match rdC s l false q.to with
      | .error e => .error e
      | .ok (.nil, _) => .error (0, 0)
      | .ok (.node _ _ x m _, k2) => .ok (r.word.text, (x, m), k2)
/-- How bind ends. -/
def BindEnd (X : Nat → Prop) (B : Nat) (sg : Value) (s : ByteArray) (b : Nat) (tv : Value) (ks : List Kv) (w : World) (res : Except (Int × Nat) (ByteArray × Tn × Nat)) (e : Ending) (w' : World) : Prop := (match res with
    | .error p => e = faultP p.1 p.2
    | .ok (v, t, k') => ∃ (k : Kv) (tv' : Value), t = k.tn ∧ e = .returned (.agg #[.string v, .string k.x.1, .int .i64 k.x.2, .slice k.a (lenF k.l) k.c]) ∧ RdBox w' B sg s k' tv' ∧ LstP X b w' tv' (ks ++ [k]) ∧ (∀ q, q < w.heap.size → q ≠ B → some q ≠ tv.ownBlock → w'.heap[q]? = w.heap[q]?)) ∧ Below B w w'

set_option maxRecDepth 100000 in
set_option maxHeartbeats 4000000 in
theorem bind_rd {X : Nat → Prop} {w0 : World} {B : Nat} {S : Option Addr} {n cap : Nat} {l : List Sym} {s : ByteArray} (hB0 : w0.heap.size ≤ B) (hs : s.size ≤ 800) (hS : SigAt w0 S n l) (b : Nat) (hb : B < b) (k : Nat) (tv : Value) (ks : List Kv) (w : World) (hk : k ≤ s.size) (hlen : ks.length ≤ k) (hB : RdBox w B (.slice S n cap) s k tv) (hL : Below w0.heap.size w0 w) (hT : LstP X b w tv ks) (hX : ∀ q, X q → q < w.heap.size) (hbw : b ≤ w.heap.size) :
    Calls Try.prog 63 #[.pointer (some ⟨B, 0, none⟩)] w fun e w' => BindEnd X B (.slice S n cap) s b tv ks w (bindC s l k) e w' := by
  have B0 := alloc_below0 w (.cells #[.string ⟨#[]⟩, .string ⟨#[]⟩, .int .i64 0, .slice none 0 0] 50)
  have E0 : BBox (w.alloc (.cells #[.string ⟨#[]⟩, .string ⟨#[]⟩, .int .i64 0, .slice none 0 0] 50)) w.heap.size ⟨#[]⟩ (⟨#[]⟩, 0) (.slice none 0 0) := World.alloc_heap_new w _
  have hBw := hB.lt
  have hs0 : (w.alloc (.cells #[.string ⟨#[]⟩, .string ⟨#[]⟩, .int .i64 0, .slice none 0 0] 50)).heap.size = w.heap.size + 1 := World.size_alloc _ _
  have hsm : s.size ≤ maxLen := by unfold maxLen; omega
  have hwt := want_rd B (.slice S n cap) tv s k 2 _ (hB.below B0) hsm hk
  have hP : LstP (fun q => X q ∨ q = w.heap.size) b w tv ks := hT.more (fun q hq => hq.imp id (fun h => by omega))
  have HWT := hid hwt; have HE := hid E0; have HP := hid (hP.below B0)
  have HB0 := hid B0
  have HL := hid hL; have HS := hid hS; have HX := hid hX
  have hown : ∀ g, tv.ownBlock = some g → g < w.heap.size := fun g hg => hT.lst.lt hg
  have HO := hid hown
  obtain ⟨res, hres⟩ : ∃ res, bindC s l k = res := ⟨_, rfl⟩
  rw [hres]
  unfold bindC at hres
  have HRS := hid hres
  clear hwt B0 E0 hB hL hS hP hT hX hown hres
  go_enter Try.func63, Try.ntmps63
  go_wp2_with fail
  generalize w.alloc (.cells #[.string ⟨#[]⟩, .string ⟨#[]⟩, .int .i64 0, .slice none 0 0] 50) = V0 at HWT HE HP HB0 hs0 ⊢
  cases hw : wantP s k 2 with
  | error q =>
    have hwt := HWT.out
    have hres := HRS.out
    rw [hw] at hwt hres
    dsimp only at hwt hres
    unfold faultP at hwt
    refine hwt.mono ?_
    rintro e w2 ⟨rfl, hf2⟩
    go_wp2
    exact ⟨rfl, by rw [← hres]; exact ⟨rfl, (HB0.out.mono (by omega)).trans (hf2.below (fun _ hk => hk ▸ Nat.le_refl _) (by omega))⟩⟩
  | ok r =>
    have hk1 := want_ok hk hw
    have hwt := HWT.out
    have hres := HRS.out
    rw [hw] at hwt hres
    dsimp only at hwt hres
    obtain ⟨⟨wk, wt, wp⟩, rt, re⟩ := r
    dsimp only at hk1 hwt hres
    unfold Wd.val at hwt
    dsimp only at hwt
    refine hwt.mono ?_
    rintro e w2 ⟨⟨rfl, hrb2⟩, hf2⟩
    have hz2 := hf2.low.size
    have B2 := alloc_below0 w2 (.cells #[.int .i64 wk, .string wt, .int .i64 wp] 71)
    have T2 : WdBox (w2.alloc (.cells #[.int .i64 wk, .string wt, .int .i64 wp] 71)) w2.heap.size ⟨wk, wt, wp⟩ := World.alloc_heap_new w2 _
    have F2 : FrB B V0 (w2.alloc (.cells #[.int .i64 wk, .string wt, .int .i64 wp] 71)) := hf2.trans (Fr.of_below B2)
    have hs2 : (w2.alloc (.cells #[.int .i64 wk, .string wt, .int .i64 wp] 71)).heap.size = w2.heap.size + 1 := World.size_alloc _ _
    have hwt2 := want_rd B (.slice S n cap) tv s rt 7 _ (hrb2.below B2) hsm hk1.2
    have HT2 := hid T2; have HF2 := hid F2; have HWT2 := hid hwt2
    have HRS2 := hid hres
    clear hwt hres hrb2 hf2 B2 T2 F2 hwt2 HWT HRS
    go_wp2_with fail
    generalize w2.alloc (.cells #[.int .i64 wk, .string wt, .int .i64 wp] 71) = V2 at HT2 HF2 HWT2 hs2 ⊢
    cases hw2 : wantP s rt 7 with
    | error q =>
      have hwt := HWT2.out
      have hres := HRS2.out
      rw [hw2] at hwt hres
      dsimp only at hwt hres
      unfold faultP at hwt
      refine hwt.mono ?_
      rintro e w3 ⟨rfl, hf3⟩
      go_wp2
      exact ⟨rfl, by rw [← hres]; exact ⟨rfl, (HB0.out.mono (by omega)).trans ((HF2.out.trans hf3).below (fun _ hk => hk ▸ Nat.le_refl _) (by omega))⟩⟩
    | ok r2 =>
      have hk2 := want_ok hk1.2 hw2
      have hwt := HWT2.out
      have hres := HRS2.out
      rw [hw2] at hwt hres
      dsimp only at hwt hres
      refine hwt.mono ?_
      rintro e w3 ⟨⟨rfl, hrb3⟩, hf3⟩
      have F3 : FrB B V0 w3 := HF2.out.trans hf3
      have hz3 := hf3.low.size
      have hz0 := HF2.out.low.size
      have E3 : BBox w3 w.heap.size ⟨#[]⟩ (⟨#[]⟩, 0) (.slice none 0 0) := (F3.same _ (by omega) (by omega)).trans HE.out
      have T3 : WdBox w3 w2.heap.size ⟨wk, wt, wp⟩ := (hf3.same _ (by omega) (by omega)).trans HT2.out
      have P3 : LstP (fun q => X q ∨ q = w.heap.size) b w3.drew tv ks := HP.out.keep (fun q hq _ hbq => F3.same q hq (by omega))
      have hlow : Below B w w3 := (HB0.out.mono (by omega)).trans (F3.below (fun _ hk => hk ▸ Nat.le_refl _) (by omega))
      have hc := whole_p (cap := cap) hB0 hs HS.out b hb r2.to tv ks w3.drew hk2.2 (by omega) hrb3 (HL.out.trans (hlow.mono hB0)).drew P3 (fun q hq => hq.elim (fun h => by have := HX.out q h; show q < w3.heap.size; omega) (fun h => by show q < w3.heap.size; omega)) (by show _ ≤ w3.heap.size; omega)
      have hwo : some w.heap.size ≠ tv.ownBlock := fun e => by have := HO.out _ e.symm; omega
      have hto : some w2.heap.size ≠ tv.ownBlock := fun e => by have := HO.out _ e.symm; omega
      have hwz : w.heap.size < w3.heap.size := by omega
      have hwB : w.heap.size ≠ B := by omega
      have htz : w2.heap.size < w3.heap.size := by omega
      have htB : w2.heap.size ≠ B := by omega
      have HC := hid hc; have HE3 := hid E3; have HT3 := hid T3; have HLW := hid hlow; have HF3 := hid F3
      have HRS3 := hid hres
      have t1 := T3.k1
      clear hwt hres hc hrb3 hf3 E3 T3 P3 hlow F3 HE HT2 HF2 HWT2 HRS2 HP
      go_wp2_with fail
      cases hr : rdC s l false r2.to with
      | error q =>
        have hc := HC.out
        have hres := HRS3.out
        unfold WholeP at hc
        rw [hr] at hc hres
        dsimp only at hc hres
        unfold faultP at hc
        have HC3 := hid hc
        have HRS4 := hid hres
        clear hc hres HC
        go_region_dies
        all_goals (try go_wp2_with fail)
        all_goals (refine HC3.out.mono ?_; rintro e w4 ⟨rfl, hb4⟩; exact ⟨rfl, by rw [← HRS4.out]; exact ⟨rfl, HLW.out.drew.trans hb4⟩⟩)
      | ok qq =>
        obtain ⟨G, k3⟩ := qq
        have hc := HC.out
        have hres := HRS3.out
        unfold WholeP at hc
        rw [hr] at hc hres
        dsimp only at hc
        have HC3 := hid hc
        have HRS4 := hid hres
        clear hc hres HC
        go_region_law ((first
          | (go_simp; go_wp2_with (go_at_call 32; refine HC3.out.mono ?_; rintro e w4 ⟨⟨⟨y, u, ua, uc⟩, tv4, rfl, rfl, hrb4, hls4, hfr4⟩, hb4⟩; have E4 : BBox w4 w.heap.size ⟨#[]⟩ (⟨#[]⟩, 0) (.slice none 0 0) := (hfr4 w.heap.size hwz hwB hwo).trans HE3.out; have T4 : WdBox w4 w2.heap.size ⟨wk, wt, wp⟩ := (hfr4 w2.heap.size htz htB hto).trans HT3.out; have t4 := T4.k1; have c0 := E4.c 0; have c1 := E4.c 1; have c2 := E4.c 2; have c3 := E4.c 3; have f0 := E4.f 0; have f1 := E4.f 1; have f2 := E4.f 2; have f3 := E4.f 3; have HE4 := hid E4; have HR4 := hid hrb4; have HL4 := hid hls4; have HB4 := hid hb4; have HG4 := hid hfr4; clear E4 T4 hrb4 hls4 hfr4 hb4))
          | fail))
        all_goals
          go_wp2
          refine bodyPost_ret (results_cell_row rfl _ _ w.heap.size 50 #[.string wt, .string y.1, .int .i64 y.2, .slice ua (lenF u) uc] (0, 0) _ rfl (bbox_all HE4.out wt y (.slice ua (lenF u) uc)) Try.underlying50 rfl (by kernel_rfl)) rfl ?_
          rw [← HRS4.out]
          refine ⟨⟨⟨y, u, ua, uc⟩, tv4, rfl, rfl, (sets_far4 (by omega) _ _ _ _).trans HR4.out, (HL4.out.keep (fun q _ hq _ => sets_far4 (fun e => hq (.inr e)) _ _ _ _)).less (fun _ h => .inl h), fun q hq hqB hqo => ?_⟩, sets_low4 (HLW.out.drew.trans HB4.out) (by omega) _ _ _ _⟩
          exact (sets_far4 (by omega) _ _ _ _).trans ((HG4.out q (by show q < w3.heap.size; omega) hqB hqo).trans ((HF3.out.same q (by omega) hqB).trans (HB0.out.block q hq)))
end Go.Proofs.Ytkcbhbkldcebiaa

namespace Go.Proofs.Ytkcbhbkldcebiaa
open Go.RowKit Go.Deep

/-- A variable and the term bound to it, with where the term's list lies. -/
abbrev Bk := ByteArray × Kv
def bkCells (x : Bk) : List Value := [.string x.1, .string x.2.x.1, .int .i64 x.2.x.2, .slice x.2.a (lenF x.2.l) x.2.c]
def bkAll (l : List Bk) : List Value := l.flatMap bkCells
def bkBn (x : Bk) : Bn := (x.1, x.2.tn)
theorem bkAll_len : ∀ l : List Bk, (bkAll l).length = l.length * 4
  | [] => rfl
  | x :: r => by
    have := bkAll_len r
    simp only [bkAll, List.flatMap_cons, List.length_append, List.length_cons] at this ⊢
    simp only [bkCells, List.length_cons, List.length_nil]
    omega
theorem bkAll_snoc (l : List Bk) (x : Bk) : bkAll (l ++ [x]) = bkAll l ++ bkCells x := by simp [bkAll]
theorem bk_one (x : Bk) : ∀ u ∈ bkCells x, u.oneCell' = true := by
  intro u hu
  simp [bkCells] at hu
  rcases hu with rfl | rfl | rfl | rfl <;> rfl
set_option maxRecDepth 100000 in
theorem Try.info50 : (Try.prog.info? 50).map (fun i => (i.zero, i.size, i.bytes)) = some (some (.agg #[.string ⟨#[]⟩, .string ⟨#[]⟩, .int .i64 0, .slice none 0 0]), 4, 64) := by kernel_rfl
set_option maxRecDepth 100000 in
/-- append of one bind. -/
theorem wpList_append_bk {ops : Array Oper} {rest : List Oper} {o : Oper} {a : Act} {Q : Exit → Act → World → Prop} {W : World} (hgd : o.guard = none) (s x : Operand)
    (ho : o.op = .call { callee := .builtin .append, args := #[s, x], argTypes := #[38, 38] }) (base : Nat) (v : Value) (bs : List Bk) (hs : a.eval s = v) (hown : W.ownsRow base 50 4 v bs.length (bkAll bs))
    (nb : Nat) (y : Bk) (hx : a.eval x = .slice (some ⟨nb, 0, none⟩) 1 1) (hm : ∀ j u, (bkCells y)[j]? = some u → W.cell? ((⟨nb, 0, none⟩ : Addr).add j) = some u) (hbig : bs.length ≤ 800) (hbase : base ≤ W.heap.size)
    (h : ∀ v' w', w'.ownsRow base 50 4 v' (bs ++ [y]).length (bkAll (bs ++ [y])) → W.grownBy w' v.ownBlock → (v'.ownBlock = v.ownBlock ∨ v'.ownBlock = some W.heap.size) → wpList Try.prog ops Q rest (a.put o.dst v') w') : wpList Try.prog ops Q (o :: rest) a W := by
  obtain ⟨i0, hi, hz0, hz1, hz2⟩ := info_parts Try.info50
  have hmax : maxLen = 9223372036854775807 := rfl
  refine wpList_append_lies _ hgd s x 38 ho base 50 i0 _ 4 64 Try.underlying38 hi hz0 hz1 hz2 rfl (by decide) v bs.length (bkAll bs) hs hown ⟨nb, 0, none⟩ 1 1 (bkCells y) hx rfl hm (bk_one y) (by decide) (by omega) (by omega) hbase _ rfl ?_
  intro g cap w' h1 h2 h3 _
  refine h _ w' ?_ h2 ?_
  · rw [bkAll_snoc, List.length_append]
    exact h1
  · rcases h3 with h3 | h3
    · exact .inl h3.symm
    · exact .inr (by rw [h3]; rfl)
theorem row_bk {W : World} {base : Nat} (y : Bk) (hb : base ≤ W.heap.size) : (W.alloc (.cells #[.string y.1, .string y.2.x.1, .int .i64 y.2.x.2, .slice y.2.a (lenF y.2.l) y.2.c] 50)).ownsRow base 50 4 (.slice (some ⟨W.heap.size, 0, none⟩) 1 1) 1 (bkAll [y]) :=
  ⟨rfl, .inr ⟨W.heap.size, 1, _, rfl, hb, World.alloc_heap_new W _, Nat.le_refl _, by decide, rfl, rfl⟩⟩
/-- The binds behind the first one, as they are read. -/
def bsF (s : ByteArray) (l : List Sym) : Nat → Nat → Except (Int × Nat) (List Bn × Nat)
  | 0, _ => .error (0, 0)
  | f + 1, k => match passP s k 5 with
    | .error e => .error e
    | .ok (false, k1) => .ok ([], k1)
    | .ok (true, k1) => match bindC s l k1 with
      | .error e => .error e
      | .ok (v, t, k2) => match bsF s l f k2 with
        | .error e => .error e
        | .ok (L, k3) => .ok ((v, t) :: L, k3)
/-- Binds, as they are read. -/
def bindsC (s : ByteArray) (l : List Sym) : Except (Int × Nat) (List Bn × Nat) := match lookP s 0 with
  | .error e => .error e
  | .ok r => if r.word.kind = 0 then .ok ([], 0) else match bindC s l 0 with
    | .error e => .error e
    | .ok (v, t, k) => match bsF s l (s.size + 1) k with
      | .error e => .error e
      | .ok (L, k') => .ok ((v, t) :: L, k')
theorem bindC_to {s : ByteArray} {l : List Sym} {k : Nat} {v : ByteArray} {t : Tn} {k' : Nat} (hk : k ≤ s.size) (h : bindC s l k = .ok (v, t, k')) : k < k' ∧ k' ≤ s.size := by
  unfold bindC at h
  cases h1 : wantP s k 2 with
  | error e => rw [h1] at h; cases h
  | ok r =>
    have e1 := want_ok hk h1
    rw [h1] at h
    dsimp only at h
    cases h2 : wantP s r.to 7 with
    | error e => rw [h2] at h; cases h
    | ok q =>
      have e2 := want_ok e1.2 h2
      rw [h2] at h
      dsimp only at h
      cases h3 : rdC s l false q.to with
      | error e => rw [h3] at h; cases h
      | ok p =>
        obtain ⟨F, k3⟩ := p
        have e3 := rdC_to e2.2 h3
        rw [h3] at h
        cases F with
        | nil => cases h
        | node _ _ x m _ => cases h; omega
/-- How binds ends. -/
def BindsEnd (B : Nat) (sg : Value) (s : ByteArray) (w : World) (res : Except (Int × Nat) (List Bn × Nat)) (e : Ending) (w' : World) : Prop := (match res with
    | .error p => e = faultP p.1 p.2
    | .ok (L, k') => ∃ (bs : List Bk) (v tv : Value), e = .returned v ∧ bs.map bkBn = L ∧ w'.ownsRow w.heap.size 50 4 v bs.length (bkAll bs) ∧ RdBox w' B sg s k' tv ∧ LstP (fun q => v.ownBlock = some q) w.heap.size w' tv (bs.map (·.2)) ∧ k' ≤ s.size ∧ bs.length ≤ s.size) ∧ Below B w w'
theorem owns_ne {W : World} {base : Nat} {v : Value} {n : Nat} {xs : List Value} {g : Nat} (h : W.ownsRow base 50 4 v n xs) (hg : v.ownBlock = some g) : base ≤ g ∧ g < W.heap.size := by
  rcases h.2 with ⟨rfl, _⟩ | ⟨g', cap, cur, rfl, hb, hc, _⟩
  · cases hg
  · cases hg
    exact ⟨hb, (Array.getElem?_eq_some_iff.1 hc).1⟩

set_option maxRecDepth 100000 in
set_option maxHeartbeats 4000000 in
theorem binds_rd {w0 : World} {B : Nat} {S : Option Addr} {n cap : Nat} {l : List Sym} {s : ByteArray} (hB0 : w0.heap.size ≤ B) (hs : s.size ≤ 800) (hS : SigAt w0 S n l) (w : World) (hB : RdBox w B (.slice S n cap) s 0 (.slice none 0 0)) (hL : Below w0.heap.size w0 w) :
    Calls Try.prog 41 #[.pointer (some ⟨B, 0, none⟩)] w fun e w' => BindsEnd B (.slice S n cap) s w (bindsC s l) e w' := by
  have hsm : s.size ≤ maxLen := by unfold maxLen; omega
  have hBlt := hB.lt
  have hc := look_any B (.slice S n cap) (.slice none 0 0) s 0 w hB hsm (Nat.zero_le _)
  have HC := hid hc; have HB := hid hB; have HL := hid hL; have HS := hid hS
  obtain ⟨res, hres⟩ : ∃ res, bindsC s l = res := ⟨_, rfl⟩
  rw [hres]
  unfold bindsC lookP at hres
  have HRS := hid hres
  clear hc hB hL hS hres
  go_enter Try.func41, Try.ntmps41
  go_wp2_with fail
  obtain ⟨⟨⟨wk, wt, wp⟩, rt, re⟩, hnx⟩ : ∃ r, nx s 0 = r := ⟨_, rfl⟩
  rw [hnx] at HC HRS
  by_cases he : re = 0
  · have hc := HC.out
    have hres := HRS.out
    simp only [if_pos he] at hc hres
    unfold Wd.val at hc
    dsimp only at hc hres
    refine hc.mono ?_
    rintro e w1 ⟨rfl, hb1⟩
    have B1 := alloc_below0 w1 (.cells #[.int .i64 wk, .string wt, .int .i64 wp] 71)
    have T1 : WdBox (w1.alloc (.cells #[.int .i64 wk, .string wt, .int .i64 wp] 71)) w1.heap.size ⟨wk, wt, wp⟩ := World.alloc_heap_new w1 _
    have R1 := hid ((HB.out.below hb1).below B1)
    have L1 : Hid (Below w.heap.size w (w1.alloc (.cells #[.int .i64 wk, .string wt, .int .i64 wp] 71))) := hid (hb1.trans (B1.mono hb1.size))
    have k0 := T1.k0
    have HRS1 := hid hres
    clear hc hres HC HRS hb1 B1 T1 he hnx
    by_cases hk0 : wk = 0
    · have hres := HRS1.out
      rw [if_pos hk0] at hres
      have HRS2 := hid hres
      subst hk0
      clear hres HRS1
      go_wp2
      go_ret
      rw [← HRS2.out]
      exact ⟨⟨[], _, .slice none 0 0, rfl, rfl, World.ownsRow_nil _ _ _ _, R1.out, LstP.nil _ _ _, Nat.zero_le _, Nat.zero_le _⟩, L1.out.mono (by omega)⟩
    · have hres := HRS1.out
      rw [if_neg hk0] at hres
      have HRS2 := hid hres
      have hkb : (wk == 0) = false := by simpa using hk0
      clear hres HRS1
      go_wp2_with fail
      generalize w1.alloc (.cells #[.int .i64 wk, .string wt, .int .i64 wp] 71) = V1 at R1 L1 k0 ⊢
      have hz1 := L1.out.size
      have hc := bind_rd (X := fun _ => False) (cap := cap) hB0 hs HS.out w.heap.size hBlt 0 (.slice none 0 0) [] V1 (Nat.zero_le _) (Nat.le_refl _) R1.out (HL.out.trans (L1.out.mono (by omega))) (LstP.nil _ _ _) (fun _ h => h.elim) hz1
      unfold BindEnd at hc
      cases hb : bindC s l 0 with
      | error q =>
        have hres := HRS2.out
        rw [hb] at hc hres
        dsimp only at hc hres
        unfold faultP at hc
        refine hc.mono ?_
        rintro e w2 ⟨rfl, hb2⟩
        go_wp2
        exact ⟨rfl, by rw [← hres]; exact ⟨rfl, (L1.out.mono (by omega)).trans hb2⟩⟩
      | ok qq =>
        obtain ⟨v1, t1, k1⟩ := qq
        have hk1 := bindC_to (Nat.zero_le _) hb
        have hres := HRS2.out
        rw [hb] at hc hres
        dsimp only at hc hres
        refine hc.mono ?_
        rintro e w2 ⟨⟨y, tv2, rfl, rfl, hrb2, hls2, _⟩, hb2⟩
        have hz2 := hb2.size
        have B2 := alloc_below0 w2 (.cells #[.string v1, .string y.x.1, .int .i64 y.x.2, .slice y.a (lenF y.l) y.c] 50)
        have R2 := hid (hrb2.below B2)
        have O2 : Hid ((w2.alloc (.cells #[.string v1, .string y.x.1, .int .i64 y.x.2, .slice y.a (lenF y.l) y.c] 50)).ownsRow w.heap.size 50 4 (.slice (some ⟨w2.heap.size, 0, none⟩) 1 1) 1 (bkAll [(v1, y)])) := hid (row_bk (v1, y) (by omega))
        have P2 : Hid (LstP (fun q => (Value.slice (some ⟨w2.heap.size, 0, none⟩) 1 1).ownBlock = some q) w.heap.size (w2.alloc (.cells #[.string v1, .string y.x.1, .int .i64 y.x.2, .slice y.a (lenF y.l) y.c] 50)) tv2 [y]) := hid ((hls2.more (fun q hq => .inr (by have : w2.heap.size = q := Option.some.inj hq; omega))).below B2)
        have L2 : Hid (Below B w (w2.alloc (.cells #[.string v1, .string y.x.1, .int .i64 y.x.2, .slice y.a (lenF y.l) y.c] 50))) := hid (((L1.out.mono (by omega)).trans hb2).trans (B2.mono (by omega)))
        have hrel0 : Hid (match bsF s l (s.size + 1) k1 with | .error e => res = .error e | .ok (L, k3) => res = .ok ([(v1, y)].map bkBn ++ L, k3)) := by
          show match bsF s l (s.size + 1) k1 with | .error e => res = .error e | .ok (L, k3) => res = .ok ([(v1, y)].map bkBn ++ L, k3)
          rw [← hres]
          cases bsF s l (s.size + 1) k1 with
          | error e => rfl
          | ok q => rfl
        have hz3 : (w2.alloc (.cells #[.string v1, .string y.x.1, .int .i64 y.x.2, .slice y.a (lenF y.l) y.c] 50)).heap.size = w2.heap.size + 1 := World.size_alloc _ _
        clear hc hb hres HRS2 hrb2 hls2 hb2 B2 R1 L1 k0
        go_wp2_with fail
        generalize w2.alloc (.cells #[.string v1, .string y.x.1, .int .i64 y.x.2, .slice y.a (lenF y.l) y.c] 50) = V2 at R2 O2 P2 L2 hz3 ⊢
        go_loopw [5] (fun ov wr => ∃ (f kc : Nat) (bs : List Bk) (v tv : Value), v = ov ∧ s.size - kc < f ∧ kc ≤ s.size ∧ bs.length ≤ kc ∧ RdBox wr B (.slice S n cap) s kc tv ∧ wr.ownsRow w.heap.size 50 4 v bs.length (bkAll bs) ∧ LstP (fun q => v.ownBlock = some q) w.heap.size wr tv (bs.map (·.2)) ∧ Below B w wr ∧ w.heap.size ≤ wr.heap.size ∧ (match bsF s l f kc with | .error e => res = .error e | .ok (L, k3) => res = .ok (bs.map bkBn ++ L, k3))) (fun _ wr => match wr.cell? ⟨B, 2, none⟩ with | some (.int _ q) => s.size - q.toNat | _ => 0)
        case atStart => exact ⟨s.size + 1, k1, [(v1, y)], _, tv2, rfl, by omega, hk1.2, by simp; omega, R2.out, O2.out, P2.out, L2.out, by omega, hrel0.out⟩
        case round =>
          obtain ⟨f, kc, bs, v, tv, rfl, hf, hkc, hlen, hrb, hrow, hlst, hlow, hsz, hrel1⟩ := hrel
          have R3 := hid hrb; have O3 := hid hrow; have P3 := hid hlst; have L3 := hid hlow
          have hc2 := hrb.c2
          obtain ⟨f, rfl⟩ : ∃ g, f = g + 1 := ⟨f - 1, by omega⟩
          unfold bsF at hrel1
          have HREL := hid hrel1
          have hc := pass_rd B (.slice S n cap) tv s kc 5 wr hrb hsm hkc
          clear hrb hrow hlst hlow hrel1 R2 O2 P2 L2 hrel0
          go_wp2_with fail
          cases hp5 : passP s kc 5 with
          | error p =>
            have hres := HREL.out
            rw [hp5] at hc hres
            dsimp only at hc hres
            unfold faultP at hc
            refine hc.mono ?_
            rintro e w4 ⟨rfl, hf4⟩
            go_wp2
            exact ⟨rfl, by rw [hres]; exact ⟨rfl, L3.out.trans (hf4.below (fun _ hk => hk ▸ Nat.le_refl _) (by omega))⟩⟩
          | ok q =>
            obtain ⟨bb, k4⟩ := q
            have hres := HREL.out
            rw [hp5] at hc hres
            dsimp only at hc
            refine hc.mono ?_
            rintro e w4 ⟨⟨rfl, hrb4⟩, hf4⟩
            have hz4 := hf4.low.size
            have R4 := hid hrb4
            have O4 : Hid (w4.ownsRow w.heap.size 50 4 v bs.length (bkAll bs)) := hid (owns_block O3.out (fun g hg => hf4.same g (owns_ne O3.out hg).2 (by have := (owns_ne O3.out hg).1; omega)))
            have P4 : Hid (LstP (fun q => v.ownBlock = some q) w.heap.size w4 tv (bs.map (·.2))) := hid (P3.out.keep (fun q hq _ hbq => hf4.same q hq (by omega)))
            have L4 := hid (L3.out.trans (hf4.below (fun _ hk => hk ▸ Nat.le_refl _) (by omega)))
            have HRS := hid hres
            clear hc hres HREL hrb4 hf4 R3 O3 P3 L3
            cases bb with
            | false =>
              obtain rfl := pass_false hp5
              have hres := HRS.out
              dsimp only at hres
              rw [List.append_nil] at hres
              go_wp2
              go_ret
              rw [hres]
              exact ⟨⟨bs, _, tv, rfl, rfl, O4.out, R4.out, P4.out, hkc, by omega⟩, L4.out⟩
            | true =>
              have hk4 := pass_true hkc (by decide) hp5
              have hres := HRS.out
              dsimp only at hres
              have hc := bind_rd (X := fun q => v.ownBlock = some q) (cap := cap) hB0 hs HS.out w.heap.size hBlt k4 tv (bs.map (·.2)) w4 hk4.2 (by rw [List.length_map]; omega) R4.out (HL.out.trans (L4.out.mono hB0)) P4.out (fun q hq => (owns_ne O4.out hq).2) (by omega)
              unfold BindEnd at hc
              go_wp2_with fail
              cases hb : bindC s l k4 with
              | error q =>
                rw [hb] at hc hres
                dsimp only at hc hres
                unfold faultP at hc
                refine hc.mono ?_
                rintro e w5 ⟨rfl, hb5⟩
                go_wp2
                exact ⟨rfl, by rw [hres]; exact ⟨rfl, L4.out.trans hb5⟩⟩
              | ok qq =>
                obtain ⟨v5, t5, k5⟩ := qq
                have hk5 := bindC_to hk4.2 hb
                rw [hb] at hc hres
                dsimp only at hc hres
                refine hc.mono ?_
                rintro e w5 ⟨⟨y5, tv5, rfl, rfl, hrb5, hls5, hfr5⟩, hb5⟩
                have hz5 := hb5.size
                have O5 : Hid (w5.ownsRow w.heap.size 50 4 v bs.length (bkAll bs)) := hid (owns_block O4.out (fun g hg => hfr5 g (owns_ne O4.out hg).2 (by have := (owns_ne O4.out hg).1; omega) (fun e => P4.out.far g e.symm hg)))
                have R5 := hid hrb5; have P5 := hid hls5
                have L5 := hid (L4.out.trans hb5)
                have HR5 := hid hres
                clear hc hb hres HRS hrb5 hls5 hfr5 hb5 R4 O4 P4 L4
                go_wp2_with (first
                  | (at_builtin; refine wpList_append_bk rfl _ _ rfl w.heap.size v bs rfl (owns_below O5.out (alloc_below0 w5 _)) w5.heap.size (v5, y5) rfl (World.news_of_block (heap_alloc_new w5 _)) (by omega) (by rw [World.size_alloc]; omega) ?_; intro v6 w6 hown6 hgrow6 hat6; have O6 := hid hown6; have G6 := hid hgrow6; have A6 := hid hat6; clear hown6 hat6 hgrow6))
                have B5 := alloc_below0 w5 (.cells #[.string v5, .string y5.x.1, .int .i64 y5.x.2, .slice y5.a (lenF y5.l) y5.c] 50)
                have hv5 : (w5.alloc (.cells #[.string v5, .string y5.x.1, .int .i64 y5.x.2, .slice y5.a (lenF y5.l) y5.c] 50)).heap.size = w5.heap.size + 1 := World.size_alloc _ _
                have hR6 : RdBox w6 B (.slice S n cap) s k5 tv5 := (G6.out.block B (by omega) (fun e => by have := (owns_ne O5.out e.symm).1; omega)).trans (R5.out.below B5)
                go_roundw
                case rel =>
                  have hP6 : LstP (fun q => v6.ownBlock = some q) w.heap.size w6 tv5 ((bs ++ [(v5, y5)]).map (·.2)) := by
                    have h1 : LstP (fun q => v.ownBlock = some q ∨ v6.ownBlock = some q) w.heap.size (w5.alloc (.cells #[.string v5, .string y5.x.1, .int .i64 y5.x.2, .slice y5.a (lenF y5.l) y5.c] 50)) tv5 (bs.map (·.2) ++ [y5]) := (P5.out.below B5).more (fun q hq => hq.elim .inl (fun h => A6.out.elim (fun e => .inl (e.symm.trans h)) (fun e => .inr (by have := Option.some.inj (e.symm.trans h); omega))))
                    have h2 := h1.keep (W' := w6) (fun q hq hx _ => G6.out.block q hq (fun e => hx (.inl e.symm)))
                    rw [List.map_append]
                    exact h2.less (fun _ h => .inr h)
                  have hL6 : Below B w w6 := ((L5.out.trans (B5.mono (by omega)))).grown G6.out (by omega) (fun q hq => by have := (owns_ne O5.out hq).1; omega)
                  refine ⟨f, k5, bs ++ [(v5, y5)], v6, tv5, rfl, by omega, hk5.2, by simp; omega, hR6, O6.out, hP6, hL6, by have := G6.out.size; omega, ?_⟩
                  have h := HR5.out
                  cases ht5 : bsF s l f k5 with
                  | error e => rw [ht5] at h; exact h
                  | ok q =>
                    obtain ⟨L, k6⟩ := q
                    rw [ht5] at h
                    dsimp only at h ⊢
                    rw [h, List.map_append, List.append_assoc]
                    rfl
                case measure =>
                  rw [hR6.c2, hc2]
                  simp
                  omega
  · have hc := HC.out
    have hres := HRS.out
    simp only [if_neg he] at hc hres
    unfold faultP at hc
    refine hc.mono ?_
    rintro e w1 ⟨rfl, hb1⟩
    go_wp2
    exact ⟨rfl, by rw [← hres]; exact ⟨rfl, hb1.mono (by omega)⟩⟩
end Go.Proofs.Ytkcbhbkldcebiaa

namespace Go.Proofs.Ytkcbhbkldcebiaa
open Go.RowKit Go.Deep

set_option maxRecDepth 100000 in
set_option maxHeartbeats 1000000 in
theorem catchB_fault (p q : Nat) (e : Int) (at_ : Nat) (x y : Int) (older : List PanicEntry) (w : World) (hpq : p ≠ q) (hp : w.cell? ⟨p, 0, none⟩ = some (.int .i64 x)) (hq : w.cell? ⟨q, 0, none⟩ = some (.int .i64 y)) (fp : w.frozen? ⟨p, 0, none⟩ = false) (fq : w.frozen? ⟨q, 0, none⟩ = false) :
    CallsD Try.prog 61 #[.pointer (some ⟨p, 0, none⟩), .pointer (some ⟨q, 0, none⟩)] (.panicking ({ v := .iface 96 (.agg #[.int .i64 e, .int .i64 at_]), recovered := false } :: older)) w fun r u w' =>
      r = .returned (.tuple #[]) ∧ u = .panicking ({ v := .iface 96 (.agg #[.int .i64 e, .int .i64 at_]), recovered := true } :: older) ∧ w'.cell? ⟨p, 0, none⟩ = some (.int .i64 e) ∧ w'.cell? ⟨q, 0, none⟩ = some (.int .i64 at_) ∧ Fr (fun k => k = p ∨ k = q) w w' := by
  refine callsD_of_wpS Try.func61 rfl fun c₀ cs hu => ?_
  apply wpS_seq
  apply wpS_region
  simp [wpOpsS, go_sem, recoverD, hu, Try.ntmps61, Exit.thenS]
  refine wpS_of_wp ?_
  change Code.wp _ _ _ { tmps := #[.pointer (some ⟨p, 0, none⟩), .pointer (some ⟨q, 0, none⟩), .iface 96 (.agg #[.int .i64 e, .int .i64 at_]), undef, .iface 96 (.agg #[.int .i64 e, .int .i64 at_]), undef, undef, undef, undef, undef, undef, undef, undef], defers := [] } _
  have hta : ∀ (v : Value) (w : World), (Instr.typeAssert (.iface 96 v) 20 96 false).run Try.prog w = .ok v w := fun v w => by kernel_rfl
  have B0 := alloc_below0 w (.cells #[.int .i64 e, .int .i64 at_] 96)
  have C0 : (w.alloc (.cells #[.int .i64 e, .int .i64 at_] 96)).heap[w.heap.size]? = some (.cells #[.int .i64 e, .int .i64 at_] 96 (0, 0)) := World.alloc_heap_new w _
  have k0 : (w.alloc (.cells #[.int .i64 e, .int .i64 at_] 96)).cell? ⟨w.heap.size, 0, none⟩ = some (.int .i64 e) := cell_box C0 rfl
  have k1 : (w.alloc (.cells #[.int .i64 e, .int .i64 at_] 96)).cell? ⟨w.heap.size, 1, none⟩ = some (.int .i64 at_) := cell_box C0 rfl
  have hp' := below_cell B0 _ _ hp; have hq' := below_cell B0 _ _ hq
  have hpl : p < w.heap.size := World.block_lt_of_cell? w _ hp
  have hql : q < w.heap.size := World.block_lt_of_cell? w _ hq
  have fp' : (w.alloc (.cells #[.int .i64 e, .int .i64 at_] 96)).frozen? ⟨p, 0, none⟩ = false := (World.frozen?_of_block (B0.block p hpl)).trans fp
  have fq' : (w.alloc (.cells #[.int .i64 e, .int .i64 at_] 96)).frozen? ⟨q, 0, none⟩ = false := (World.frozen?_of_block (B0.block q hql)).trans fq
  have hqp : ¬ q = p := fun h => hpq h.symm
  have n1 : ¬ w.heap.size = p := by omega
  have n2 : ¬ w.heap.size = q := by omega
  have n3 : ¬ p = w.heap.size := by omega
  have n4 : ¬ q = w.heap.size := by omega
  have FB := hid (Fr.of_below (A := fun k => k = p ∨ k = q) B0)
  clear B0 C0
  go_wp2
  generalize w.alloc (.cells #[.int .i64 e, .int .i64 at_] 96) = V0 at FB k0 k1 hp' hq' fp' fq' ⊢
  go_region
  all_goals
    have E1 : ((V0.setCell ⟨p, 0, none⟩ (.int .i64 e)).setCell ⟨q, 0, none⟩ (.int .i64 at_)).cell? ⟨p, 0, none⟩ = some (.int .i64 e) := (World.cell?_of_block (a := ⟨p, 0, none⟩) (set_far hpq _)).trans (World.cell?_setCell_same _ _ _ hp')
    have E2 : ((V0.setCell ⟨p, 0, none⟩ (.int .i64 e)).setCell ⟨q, 0, none⟩ (.int .i64 at_)).cell? ⟨q, 0, none⟩ = some (.int .i64 at_) := World.cell?_setCell_same _ _ _ ((World.cell?_of_block (a := ⟨q, 0, none⟩) (set_far hqp _)).trans hq')
    have E3 : Fr (fun k => k = p ∨ k = q) w (((V0.setCell ⟨p, 0, none⟩ (.int .i64 e)).setCell ⟨q, 0, none⟩ (.int .i64 at_)).drew) := FB.out.trans ⟨(((Below.refl _ V0).setCell (p := ⟨p, 0, none⟩) (Nat.zero_le _) _).setCell (p := ⟨q, 0, none⟩) (Nat.zero_le _) _).drew, fun k hk hn => (set_far (fun h => hn (.inr h)) _).trans (set_far (fun h => hn (.inl h)) _)⟩
    exact ⟨rfl, _, rfl, _, results_none rfl _ _ _, rfl, rfl, E1, E2, E3⟩

set_option maxRecDepth 100000 in
theorem catchB_none (p q : Nat) (w : World) :
    CallsD Try.prog 61 #[.pointer (some ⟨p, 0, none⟩), .pointer (some ⟨q, 0, none⟩)] .returning w fun r u w' => r = .returned (.tuple #[]) ∧ u = .returning ∧ w' = w := by
  refine callsD_of_wpS Try.func61 rfl fun c₀ cs hu => ?_
  apply wpS_seq
  apply wpS_region
  simp [wpOpsS, go_sem, recoverD, hu, Try.ntmps61, Exit.thenS]
  refine wpS_of_wp ?_
  change Code.wp _ _ _ { tmps := #[.pointer (some ⟨p, 0, none⟩), .pointer (some ⟨q, 0, none⟩), .nilIface, undef, .nilIface, undef, undef, undef, undef, undef, undef, undef, undef], defers := [] } _
  go_wp2
  cases c₀
  simp_all [bodyPostS, results, Try.results61]


theorem results_t1c2 {fn : Func} {t p q : Tmp} {tp tq : TypeId} {P : Program} {tmps : Array Value} {w : World} {a b : Addr} {x y : Value} (h : fn.results = #[.tmp t, .cell p tp, .cell q tq]) (hp : tmps.getD p undef = .pointer (some a)) (hq : tmps.getD q undef = .pointer (some b))
    (la : (loadVar tp a).run P w = .ok x w) (lb : (loadVar tq b).run P w = .ok y w) : (results fn tmps).run P w = .ok (.tuple #[tmps.getD t undef, x, y]) w := by
  have hp' : tmps[p]?.getD undef = .pointer (some a) := by simpa using hp
  have hq' : tmps[q]?.getD undef = .pointer (some b) := by simpa using hq
  simp [results, h, hp', hq', asAddr, la, lb]
/-- The door of read, where a fault comes to it. -/
theorem doorB_fault {fn : Func} {F : FuncId} {R : Ending → World → Prop} {tmps : Array Value} {e : Int} {at_ : Nat} {p q : Nat} {W : World} {zv : Value}
    (hres : fn.results = #[.tmp 6, .cell 7 29, .cell 8 3]) (h6 : tmps.getD 6 undef = zv) (h7 : tmps.getD 7 undef = .pointer (some ⟨p, 0, none⟩)) (h8 : tmps.getD 8 undef = .pointer (some ⟨q, 0, none⟩))
    (hinv : (invoke (.fn (.func F) #[.pointer (some ⟨p, 0, none⟩), .pointer (some ⟨q, 0, none⟩)]) #[]).run Try.prog W = .ok (.enter F #[.pointer (some ⟨p, 0, none⟩), .pointer (some ⟨q, 0, none⟩)]) W)
    (hC : CallsD Try.prog F #[.pointer (some ⟨p, 0, none⟩), .pointer (some ⟨q, 0, none⟩)] (.panicking [ftE e at_ false]) W fun x u w' => x = .returned (.tuple #[]) ∧ u = .panicking [ftE e at_ true] ∧ w'.cell? ⟨p, 0, none⟩ = some (.int .i64 e) ∧ w'.cell? ⟨q, 0, none⟩ = some (.int .i64 at_) ∧ Fr (fun k => k = p ∨ k = q) W w')
    (hR : ∀ W', Fr (fun k => k = p ∨ k = q) W W' → R (.returned (.tuple #[zv, .int .i64 e, .int .i64 at_])) W') :
    bodyPostD Try.prog fn R (.panic [ftE e at_ false]) { tmps := tmps, defers := [{ target := .fn (.func F) #[.pointer (some ⟨p, 0, none⟩), .pointer (some ⟨q, 0, none⟩)], args := #[] }] } W := by
  refine leaves_cons (f := F) (args := #[.pointer (some ⟨p, 0, none⟩), .pointer (some ⟨q, 0, none⟩)]) (by simp) hinv ?_
  refine hC.mono ?_
  rintro x u w' ⟨rfl, rfl, hp, hq, hf⟩
  have h := results_t1c2 (P := Try.prog) (w := w') hres h7 h8 (load_err hp) (load_int hq)
  rw [h6] at h
  exact ⟨_, h, hR w' hf⟩
/-- The door of read, where all went well. -/
theorem doorB_done {fn : Func} {F : FuncId} {R : Ending → World → Prop} {tmps : Array Value} {x y : Int} {p q : Nat} {W : World} {zv : Value}
    (hres : fn.results = #[.tmp 6, .cell 7 29, .cell 8 3]) (h6 : tmps.getD 6 undef = zv) (h7 : tmps.getD 7 undef = .pointer (some ⟨p, 0, none⟩)) (h8 : tmps.getD 8 undef = .pointer (some ⟨q, 0, none⟩))
    (hinv : (invoke (.fn (.func F) #[.pointer (some ⟨p, 0, none⟩), .pointer (some ⟨q, 0, none⟩)]) #[]).run Try.prog W = .ok (.enter F #[.pointer (some ⟨p, 0, none⟩), .pointer (some ⟨q, 0, none⟩)]) W)
    (hC : CallsD Try.prog F #[.pointer (some ⟨p, 0, none⟩), .pointer (some ⟨q, 0, none⟩)] .returning W fun x u w' => x = .returned (.tuple #[]) ∧ u = .returning ∧ w' = W)
    (hp : W.cell? ⟨p, 0, none⟩ = some (.int .i64 x)) (hq : W.cell? ⟨q, 0, none⟩ = some (.int .i64 y))
    (hR : R (.returned (.tuple #[zv, .int .i64 x, .int .i64 y])) W) :
    bodyPostD Try.prog fn R .ret { tmps := tmps, defers := [{ target := .fn (.func F) #[.pointer (some ⟨p, 0, none⟩), .pointer (some ⟨q, 0, none⟩)], args := #[] }] } W := by
  refine leaves_cons (f := F) (args := #[.pointer (some ⟨p, 0, none⟩), .pointer (some ⟨q, 0, none⟩)]) (by simp) hinv ?_
  refine hC.mono ?_
  rintro x' u w' ⟨rfl, rfl, rfl⟩
  have h := results_t1c2 (P := Try.prog) (w := w') hres h7 h8 (load_err hp) (load_int hq)
  rw [h6] at h
  exact ⟨_, h, hR⟩
/-- The two results' boxes. -/
theorem two_new (w : World) : ∃ V, ((w.alloc (.cells #[.int .i64 0] 29)).alloc (.cells #[.int .i64 0] 3)) = V ∧ (V.cell? ⟨w.heap.size, 0, none⟩ = some (.int .i64 0) ∧ V.frozen? ⟨w.heap.size, 0, none⟩ = false) ∧ (V.cell? ⟨w.heap.size + 1, 0, none⟩ = some (.int .i64 0) ∧ V.frozen? ⟨w.heap.size + 1, 0, none⟩ = false) ∧ Below w.heap.size w V ∧ V.heap.size = w.heap.size + 2 := by
  have h2 := World.alloc_heap_new w (.cells #[.int .i64 0] 29)
  have h3 := World.alloc_heap_new (w.alloc (.cells #[.int .i64 0] 29)) (.cells #[.int .i64 0] 3)
  have b2 := alloc_below0 w (.cells #[.int .i64 0] 29)
  have b3 := alloc_below0 (w.alloc (.cells #[.int .i64 0] 29)) (.cells #[.int .i64 0] 3)
  have h2' := (b3.block _ (Nat.lt_of_lt_of_eq (Nat.lt_succ_self _) (World.size_alloc _ _).symm)).trans h2
  rw [World.size_alloc] at h3
  exact ⟨_, rfl, ⟨cell_box h2' rfl, frozen_box h2'⟩, ⟨cell_box h3 rfl, frozen_box h3⟩, b2.trans (b3.mono b2.size), by rw [World.size_alloc, World.size_alloc]⟩
/-- The two results' boxes stand. -/
structure Kept2 (w W : World) : Prop where
  p : W.cell? ⟨w.heap.size, 0, none⟩ = some (.int .i64 0) ∧ W.frozen? ⟨w.heap.size, 0, none⟩ = false
  q : W.cell? ⟨w.heap.size + 1, 0, none⟩ = some (.int .i64 0) ∧ W.frozen? ⟨w.heap.size + 1, 0, none⟩ = false
  low : Below w.heap.size w W
theorem Kept2.of {w V W : World} {o : Obj} (h1 : V.cell? ⟨w.heap.size, 0, none⟩ = some (.int .i64 0) ∧ V.frozen? ⟨w.heap.size, 0, none⟩ = false) (h2 : V.cell? ⟨w.heap.size + 1, 0, none⟩ = some (.int .i64 0) ∧ V.frozen? ⟨w.heap.size + 1, 0, none⟩ = false) (h4 : Below w.heap.size w V) (hs : V.heap.size = w.heap.size + 2)
    (B1 : Below V.heap.size V (V.alloc o)) (hW : Below (w.heap.size + 2) (V.alloc o) W) : Kept2 w W := by
  have hb : ∀ k, k < w.heap.size + 2 → W.heap[k]? = V.heap[k]? := fun k hk => (hW.block k hk).trans (B1.block k (by omega))
  exact ⟨⟨(World.cell?_of_block (hb w.heap.size (by omega))).trans h1.1, (World.frozen?_of_block (hb w.heap.size (by omega))).trans h1.2⟩, ⟨(World.cell?_of_block (hb (w.heap.size + 1) (by omega))).trans h2.1, (World.frozen?_of_block (hb (w.heap.size + 1) (by omega))).trans h2.2⟩, h4.trans ((B1.mono (by omega)).trans (hW.mono (by omega)))⟩
/-- The first wrong one among the terms. -/
def firstB (l : List Sym) : List Bn → Int
  | [] => 0
  | x :: r => if chk l x.2.1 x.2.2 = 0 then firstB l r else chk l x.2.1 x.2.2
theorem firstB_of (l : List Sym) : ∀ bs : List Bk, firstE l (bs.map (·.2)) = firstB l (bs.map bkBn)
  | [] => rfl
  | x :: r => by
    simp only [List.map_cons, firstE, firstB, bkBn, Kv.tn]
    rw [firstB_of l r]
/-- What text and signature are read as: binds; or what is wrong, and where. -/
def fullB (s : ByteArray) (l : List Sym) : Except (Int × Nat) (List Bn) := if 800 < s.size then .error (55, 0) else match bindsC s l with
  | .error e => .error e
  | .ok (L, k) => match endR s k with
    | .error e => .error e
    | .ok _ => if firstB l L = 0 then .ok L else .error (firstB l L, 0)
/-- The slice with this address and length holds these binds. -/
structure BRow (w : World) (p : Option Addr) (n : Nat) (l : List Bn) : Prop where
  len : n = l.length
  small : n ≤ maxLen
  cells : ∀ i (h : i < l.length), ∃ b off a c, p = some ⟨b, off, none⟩ ∧ BdAt w b (off + i * 4) l[i] a c
theorem BindsAt.bRow {w : World} {p : Option Addr} {n : Nat} {l : List Bn} (h : BindsAt w p n l) : BRow w p n l := ⟨h.len, h.small, h.cells⟩
theorem BRow.below {w w' : World} {p : Option Addr} {n : Nat} {l : List Bn} (h : BRow w p n l) (hb : Below w.heap.size w w') : BRow w' p n l :=
  ⟨h.len, h.small, fun i hi => let ⟨b, off, a, c, h1, h2⟩ := h.cells i hi; ⟨b, off, a, c, h1, h2.below hb⟩⟩
theorem bkAll_at : ∀ (bs : List Bk) (i : Nat) (h : i < bs.length) (d : Nat), d < 4 → (bkAll bs)[i * 4 + d]? = (bkCells bs[i])[d]?
  | x :: r, 0, _, d, hd => by
    show (bkCells x ++ bkAll r)[0 * 4 + d]? = _
    rw [Nat.zero_mul, Nat.zero_add, List.getElem?_append_left (by show d < 4; exact hd)]
    rfl
  | x :: r, i + 1, h, d, hd => by
    show (bkCells x ++ bkAll r)[(i + 1) * 4 + d]? = _
    rw [List.getElem?_append_right (by show 4 ≤ _; omega)]
    have e : (i + 1) * 4 + d - (bkCells x).length = i * 4 + d := by show (i + 1) * 4 + d - 4 = _; omega
    rw [e, bkAll_at r i (by simpa using h) d hd]
    rfl
theorem bRow_of {w : World} {base : Nat} {v : Value} {bs : List Bk} (h : w.ownsRow base 50 4 v bs.length (bkAll bs)) (hT : ∀ k ∈ bs.map (·.2), TmAt w k.x k.a k.c k.l) : ∃ P c, v = .slice P bs.length c ∧ BRow w P bs.length (bs.map bkBn) := by
  rcases h.2 with ⟨rfl, h0⟩ | ⟨g, cap, cur, rfl, hb, hg, hnc, hcm, hsz, hcur⟩
  · obtain rfl : bs = [] := List.length_eq_zero_iff.1 h0
    exact ⟨none, 0, rfl, rfl, by simp, fun i hi => absurd hi (by simp)⟩
  · refine ⟨_, cap, rfl, by simp, by omega, fun i hi => ?_⟩
    have hi' : i < bs.length := by simpa using hi
    have hx : (bs.map bkBn)[i] = bkBn bs[i] := by simp
    rw [hx]
    have q : ∀ d u, d < 4 → (bkCells bs[i])[d]? = some u → w.cell? ⟨g, 0 + (i * 4 + d), none⟩ = some u := fun d u hd hu => owns_at h _ _ (by rw [bkAll_at bs i hi' d hd]; exact hu)
    have q0 := q 0 _ (by decide) rfl; have q1 := q 1 _ (by decide) rfl; have q2 := q 2 _ (by decide) rfl; have q3 := q 3 _ (by decide) rfl
    rw [← Nat.add_assoc] at q0 q1 q2 q3
    exact ⟨g, 0, bs[i].2.a, bs[i].2.c, rfl, q0, q1, q2, q3, hT _ (List.mem_map_of_mem (List.getElem_mem hi'))⟩
/-- How Binds ends. -/
def FullBEnd (w : World) (res : Except (Int × Nat) (List Bn)) (e : Ending) (w' : World) : Prop := (match res with
    | .error q => e = .returned (.tuple #[.slice none 0 0, .int .i64 q.1, .int .i64 q.2])
    | .ok L => ∃ P c, e = .returned (.tuple #[.slice P L.length c, .int .i64 0, .int .i64 0]) ∧ BRow w' P L.length L) ∧ Below w.heap.size w w'

set_option maxRecDepth 100000 in
set_option maxHeartbeats 4000000 in
theorem readB_long (S : Option Addr) (n cap : Nat) (s : ByteArray) (w : World) (hs : 800 < s.size) :
    Calls Try.prog 40 #[.slice S n cap, .string s, .func (.func 41) #[] #[]] w fun e w' => e = .returned (.tuple #[.slice none 0 0, .int .i64 55, .int .i64 0]) ∧ Below w.heap.size w w' := by
  have hmf : ∀ (fn : Fn) (first cap : Array Value) (w : World), (Instr.makeFunc fn first cap).run Try.prog w = .ok (.func fn first cap) w := fun _ _ _ _ => rfl
  have hs' : (800 : Int) < s.size := by omega
  go_enter_defers Try.func40, Try.ntmps40
  go_wp2
  obtain ⟨V, hV, hV1, hV2, hVl, hVs⟩ := two_new w
  rw [hV]
  refine doorB_fault (at_ := 0) rfl rfl rfl rfl (by simp [go_sem]) (catchB_fault _ _ 55 0 0 0 [] _ (by omega) hV1.1 hV2.1 hV1.2 hV2.2) (fun W' hf => ⟨rfl, ?_⟩)
  exact hVl.trans (hf.below (fun k hk => by omega) hVl.size)

set_option maxRecDepth 100000 in
set_option maxHeartbeats 4000000 in
theorem read_binds (S : Option Addr) (n cap : Nat) (l : List Sym) (s : ByteArray) (w : World) (hs : s.size ≤ 800) (hS : SigAt w S n l) :
    Calls Try.prog 40 #[.slice S n cap, .string s, .func (.func 41) #[] #[]] w fun e w' => FullBEnd w (fullB s l) e w' := by
  have hmf : ∀ (fn : Fn) (first cap : Array Value) (w : World), (Instr.makeFunc fn first cap).run Try.prog w = .ok (.func fn first cap) w := fun _ _ _ _ => rfl
  have hs' : ¬ (800 : Int) < s.size := by omega
  obtain ⟨V, hV, hV1, hV2, hVl, hVs⟩ := two_new w
  have B1 := alloc_below0 V (.cells #[.slice S n cap, .string s, .int .i64 0, .slice none 0 0] 98)
  have LV := hid (hVl.trans (B1.mono hVl.size))
  have R0 : RdBox (V.alloc (.cells #[.slice S n cap, .string s, .int .i64 0, .slice none 0 0] 98)) V.heap.size (.slice S n cap) s 0 (.slice none 0 0) := World.alloc_heap_new V _
  rw [hVs] at R0
  have hc := binds_rd (w0 := w) (B := w.heap.size + 2) (cap := cap) (by omega) hs hS (V.alloc (.cells #[.slice S n cap, .string s, .int .i64 0, .slice none 0 0] 98)) R0 LV.out
  have HC := hid hc
  have KE : Hid (∀ W, Below (w.heap.size + 2) (V.alloc (.cells #[.slice S n cap, .string s, .int .i64 0, .slice none 0 0] 98)) W → Kept2 w W) := hid fun W hW => Kept2.of hV1 hV2 hVl hVs B1 hW
  have hVa : Hid ((V.alloc (.cells #[.slice S n cap, .string s, .int .i64 0, .slice none 0 0] 98)).heap.size = w.heap.size + 3) := by show _ = _; rw [World.size_alloc, hVs]
  have HS := hid hS
  have hsm : s.size ≤ maxLen := by unfold maxLen; omega
  clear hc R0 B1 hV1 hV2 hVl hS
  obtain ⟨res, hres⟩ : ∃ res, fullB s l = res := ⟨_, rfl⟩
  rw [hres]
  unfold fullB at hres
  rw [if_neg (by omega)] at hres
  have HRS := hid hres
  clear hres
  go_enter_defers Try.func40, Try.ntmps40
  go_wp2_with fail
  clear hV
  generalize V.alloc (.cells #[.slice S n cap, .string s, .int .i64 0, .slice none 0 0] 98) = V1 at LV HC KE hVa ⊢
  have hc := HC.out
  have hres := HRS.out
  unfold BindsEnd at hc
  cases hr : bindsC s l with
  | error q =>
    rw [hr] at hc hres
    dsimp only at hc hres
    unfold faultP at hc
    refine hc.mono ?_
    rintro e w2 ⟨rfl, hb2⟩
    have K2 := hid (KE.out w2 hb2)
    have HR := hid hres
    clear hc hres hb2
    go_wp2
    refine doorB_fault rfl rfl rfl rfl (by simp [go_sem]) (catchB_fault _ _ q.1 q.2 0 0 [] _ (by omega) K2.out.p.1 K2.out.q.1 K2.out.p.2 K2.out.q.2) (fun W' hf => ?_)
    rw [← HR.out]
    exact ⟨rfl, K2.out.low.trans (hf.below (fun k hk => by omega) K2.out.low.size)⟩
  | ok qq =>
    obtain ⟨L, k'⟩ := qq
    rw [hr] at hc hres
    dsimp only at hc hres
    refine hc.mono ?_
    rintro e w2 ⟨⟨bs, v, tv, rfl, hL, hrow, hrb2, hls2, hk', hbl⟩, hb2⟩
    have K2 : Hid (∀ W, Below w2.heap.size w2 W → Kept2 w W) := hid fun W hW => KE.out W (hb2.trans (hW.mono (by have := hb2.size; rw [hVa.out] at this; omega)))
    have HRW := hid hrow; have HLS := hid hls2
    have HR := hid hres; have HLL := hid hL
    have hz2 := hb2.size
    rw [hVa.out] at hz2
    clear hc hres hrow hls2 hb2 HC KE HRS hL
    go_wp2_with fail
    have he := end_rd (w.heap.size + 2) (.slice S n cap) tv s k' w2 hrb2 hsm hk'
    cases hen : endR s k' with
    | error q =>
      have hres := HR.out
      rw [hen] at he hres
      dsimp only at he hres
      unfold faultP at he
      refine he.mono ?_
      rintro e w3 ⟨rfl, hb3⟩
      have K3 := hid (K2.out w3 hb3)
      have HR3 := hid hres
      clear he hres hb3 HR
      go_wp2
      refine doorB_fault rfl rfl rfl rfl (by simp [go_sem]) (catchB_fault _ _ q.1 q.2 0 0 [] _ (by omega) K3.out.p.1 K3.out.q.1 K3.out.p.2 K3.out.q.2) (fun W' hf => ?_)
      rw [← HR3.out]
      exact ⟨rfl, K3.out.low.trans (hf.below (fun k hk => by omega) K3.out.low.size)⟩
    | ok q =>
      have hres := HR.out
      rw [hen] at he hres
      dsimp only at he hres
      refine he.mono ?_
      rintro e w3 ⟨rfl, hb3⟩
      have K3 : Hid (∀ W, Below w3.heap.size w3 W → Kept2 w W) := hid fun W hW => K2.out W (hb3.trans (hW.mono hb3.size))
      have R3 := hrb2.below hb3
      have L3 := HLS.out.below hb3
      have O3 := hid (owns_below HRW.out hb3)
      have HR3 := hid hres
      have hz3 := hb3.size
      obtain ⟨ra, rc, hrv, _, _, hrowt, _, _⟩ := row_of_owns L3.row
      subst hrv
      have hblen : (bs.map (·.2)).length ≤ 1000 := by rw [List.length_map]; omega
      have hcc := check_rd (w.heap.size + 2) S n cap l s k' (bs.map (·.2)) ra rc w3 R3 (HS.out.below (K3.out w3 (Below.refl _ _)).low) hrowt hblen (fun k hk => (L3.own k hk).tm)
      have HL3 := hid L3
      clear he hres hb3 hrowt R3 L3 HR HLS hrb2 HRW
      go_wp2_with fail
      rw [firstB_of, HLL.out] at hcc
      by_cases hch : firstB l L = 0
      · refine hcc.mono ?_
        rintro e w4 ⟨he4, hb4⟩
        rw [if_pos hch] at he4
        subst he4
        have hres := HR3.out
        rw [if_pos hch] at hres
        have HR4 := hid hres
        have K4 := K3.out w4 hb4
        have O4 := hid (owns_below O3.out hb4)
        have HL4 := hid (HL3.out.below hb4)
        have p0 := K4.p.1; have p1 := K4.p.2; have q0 := K4.q.1; have q1 := K4.q.2
        have HK4 := hid K4
        have hs4 := hb4.size
        clear hcc K4 hb4 hres HR3
        go_wp2
        have e1 := two_sets (show w.heap.size ≠ w.heap.size + 1 by omega) HK4.out.p.1 HK4.out.q.1
        refine doorB_done rfl rfl rfl rfl (by simp [go_sem]) (catchB_none _ _ _) e1.1 e1.2.1 ?_
        obtain ⟨P, c, hv, hB⟩ := bRow_of (w := ((w4.setCell ⟨w.heap.size, 0, none⟩ (.int .i64 0)).setCell ⟨w.heap.size + 1, 0, none⟩ (.int .i64 0))) (owns_block O4.out (fun g hg => e1.2.2 g (by have := (owns_ne O4.out hg).1; rw [hVa.out] at this; omega) (by have := (owns_ne O4.out hg).1; rw [hVa.out] at this; omega))) (fun k hk => ((HL4.out.own k hk).keep (fun q hq _ => e1.2.2 q (by have := hq.1.1; rw [hVa.out] at this; omega) (by have := hq.1.1; rw [hVa.out] at this; omega))).tm)
        rw [← HR4.out]
        have hll : bs.length = L.length := by rw [← HLL.out, List.length_map]
        rw [HLL.out, hll] at hB
        refine ⟨⟨P, c, ?_, hB⟩, set_low (set_low HK4.out.low (Nat.le_refl _) _) (by omega) _⟩
        rw [hv, hll]
        rfl
      · refine hcc.mono ?_
        rintro e w4 ⟨he4, hb4⟩
        rw [if_neg hch] at he4
        unfold faultP at he4
        subst he4
        have hres := HR3.out
        rw [if_neg hch] at hres
        have HR4 := hid hres
        have K4 := hid (K3.out w4 hb4)
        clear hcc hb4 hres
        go_wp2
        refine doorB_fault rfl rfl rfl rfl (by simp [go_sem]) (catchB_fault _ _ (firstB l L) 0 0 0 [] _ (by omega) K4.out.p.1 K4.out.q.1 K4.out.p.2 K4.out.q.2) (fun W' hf => ?_)
        rw [← HR4.out]
        exact ⟨rfl, K4.out.low.trans (hf.below (fun k hk => by omega) K4.out.low.size)⟩
theorem readB_all (S : Option Addr) (n cap : Nat) (l : List Sym) (s : ByteArray) (w : World) (hS : SigAt w S n l) :
    Calls Try.prog 40 #[.slice S n cap, .string s, .func (.func 41) #[] #[]] w fun e w' => FullBEnd w (fullB s l) e w' := by
  by_cases hs : s.size ≤ 800
  · exact read_binds S n cap l s w hs hS
  · refine (readB_long S n cap s w (by omega)).mono ?_
    rintro e w' ⟨rfl, hb⟩
    have : fullB s l = .error (55, 0) := by unfold fullB; rw [if_pos (by omega)]
    rw [this]
    exact ⟨rfl, hb⟩
set_option maxRecDepth 100000 in
set_option maxHeartbeats 4000000 in
/-- Binds of a text. -/
theorem binds_any (S : Option Addr) (n cap : Nat) (l : List Sym) (s : ByteArray) (w : World) (hS : SigAt w S n l) :
    Calls Try.prog 15 #[.slice S n cap, .string s] w fun e w' => FullBEnd w (fullB s l) e w' := by
  have hc := readB_all S n cap l s w hS
  have HC := hid hc
  clear hc hS
  obtain ⟨res, hres⟩ : ∃ res, fullB s l = res := ⟨_, rfl⟩
  rw [hres] at HC ⊢
  clear hres
  go_enter Try.func15, Try.ntmps15
  go_wp2_with fail
  have hc := HC.out
  unfold FullBEnd at hc
  cases res with
  | error q =>
    dsimp only at hc
    refine hc.mono ?_
    rintro e w1 ⟨rfl, hb⟩
    have L1 := hid hb
    clear hc hb
    go_wp2
    go_ret3
    exact ⟨rfl, L1.out⟩
  | ok L =>
    dsimp only at hc
    refine hc.mono ?_
    rintro e w1 ⟨⟨P, c, rfl, hB⟩, hb⟩
    have L1 := hid hb; have HB := hid hB
    clear hc hb hB
    go_wp2
    go_ret3
    exact ⟨⟨P, c, rfl, HB.out⟩, L1.out⟩
end Go.Proofs.Ytkcbhbkldcebiaa

namespace Go.Proofs.Ytkcbhbkldcebiaa
open Go.RowKit Go.Deep

set_option maxRecDepth 100000 in
set_option maxHeartbeats 4000000 in
theorem same_true (P Q : Option Addr) (pc qc : Nat) (L M : List Bn) (w : World) (hP : BRow w P L.length L) (hQ : BRow w Q L.length M) (hA : ∀ i (hi : i < L.length) (hj : i < M.length), L[i].1 = M[i].1 ∧ exN L[i].2.1 M[i].2.1 L[i].2.2 M[i].2.2 = true) :
    Calls Try.prog 17 #[.slice P L.length pc, .slice Q L.length qc] w fun e w' => e = .returned (.bool true) ∧ Below w.heap.size w w' := by
  have HP := hid hP; have HQ := hid hQ; have HA := hid hA
  have hsm := hP.small
  unfold maxLen at hsm
  have HLM := hid hQ.len
  clear hP hQ hA
  go_enter Try.func17, Try.ntmps17
  go_wp2_with fail
  go_loopw [5, 6] (fun iv _ wr => ∃ i : Nat, iv = .int .i64 i ∧ i ≤ L.length ∧ Below w.heap.size w wr) (fun iv _ _ => L.length - (intOf iv).toNat)
  case atStart => exact ⟨0, rfl, Nat.zero_le _, Below.refl _ _⟩
  case round =>
    obtain ⟨i, rfl, hi, hb⟩ := hrel
    have HB := hid hb
    clear hb
    by_cases hlt : i < L.length
    · obtain ⟨b1, o1, ta, tc, hp, bd1⟩ := HP.out.cells i hlt
      obtain ⟨b2, o2, ua, uc, hq, bd2⟩ := HQ.out.cells i (by have := HLM.out; omega)
      obtain ⟨x, hx⟩ : ∃ x, L[i] = x := ⟨_, rfl⟩
      obtain ⟨y, hy⟩ : ∃ y, M[i]'(by have := HLM.out; omega) = y := ⟨_, rfl⟩
      have ha := HA.out i hlt (by have := HLM.out; omega)
      rw [hx] at bd1 ha
      rw [hy] at bd2 ha
      subst hp hq
      have c1 := bd1.below HB.out; have c2 := bd2.below HB.out
      have HN : Hid (∀ W, Below wr.heap.size wr W → Calls Try.prog 12 #[.agg #[.string x.2.1.1, .int .i64 x.2.1.2, .slice ta (lenF x.2.2) tc], .agg #[.string y.2.1.1, .int .i64 y.2.1.2, .slice ua (lenF y.2.2) uc]] W fun e w' => e = .returned (.bool true) ∧ Below W.heap.size W w') := hid fun W hW => by
        have h := rexact_any x.2 y.2 ta ua tc uc W (c1.tm.below hW) (c2.tm.below hW)
        rw [ha.2] at h
        exact h
      have hne := later_some wr
      have e1 := later_cell c1.name; have e2 := later_cell c1.sym; have e3 := later_cell c1.list
      have f1 := later_cell c2.name; have f2 := later_cell c2.sym; have f3 := later_cell c2.list
      have V1 := hid c1.var; have V2 := hid c2.var
      have HE := hid ha.1
      clear bd1 bd2 c1 c2 ha hx hy
      go_wp2_with fail
      refine wp_region_later (by kernel_rfl) (by kernel_rfl) ?_
      repeat (go_big_quiet_step (first | (go_at_call 12; with_reducible refine calls_later (HN.out _ ?_); exact Later.below _) | fail))
      refine wpQuiet_nil ?_
      intro _ hw'
      obtain ⟨b3, hw''⟩ := hw'
      subst hw''
      have HB3 := hid (HB.out.trans (b3.below.mono HB.out.size))
      have v1 := later_cell V1.out b3; have v2 := later_cell V2.out b3
      clear e1 e2 e3 f1 f2 f3 hne
      rw [← HE.out] at v2
      generalize b3.now = W3 at HB3 v1 v2 ⊢
      go_wp2_with fail
      have hne := later_some W3
      have g1 := later_cell v1; have g2 := later_cell v2
      refine wp_region_later (by kernel_rfl) (by kernel_rfl) ?_
      repeat (go_big_quiet_step (fail))
      refine wpQuiet_nil ?_
      intro _ hw'
      obtain ⟨b4, hw''⟩ := hw'
      subst hw''
      have HB4 := hid (HB3.out.trans (b4.below.mono HB3.out.size))
      clear g1 g2 hne
      go_wp2
      go_roundw
      case rel => exact ⟨i + 1, by go_num, by omega, HB4.out⟩
      case measure => simp [intOf]; omega
    · have hil : i = L.length := by omega
      subst hil
      go_wp2
      go_ret
      exact ⟨rfl, HB.out⟩
end Go.Proofs.Ytkcbhbkldcebiaa

namespace Go.Proofs.Ytkcbhbkldcebiaa
open Go.RowKit Go.Deep

/-- The error behind want. -/
def wantE (s : ByteArray) (wk : Int) (wp : Nat) (kd e1 : Int) (p1 : Nat) : Int × Nat := if e1 = 0 then (if wk = 0 then (51, s.size) else if wk = kd then (0, p1) else (52, wp)) else (e1, p1)
set_option maxRecDepth 100000 in
set_option maxHeartbeats 4000000 in
theorem want_of (B : Nat) (sg : Value) (s : ByteArray) (kd : Int) (wt : ByteArray) (wk : Int) (wp k1 p1 : Nat) (e1 : Int) (w : World) (hBw : B < w.heap.size)
    (hc : ∀ W, Below w.heap.size w W → Calls Try.prog 43 #[.pointer (some ⟨B, 0, none⟩)] W fun e w' => e = .returned (.agg #[.int .i64 wk, .string wt, .int .i64 wp]) ∧ RfBox w' B sg s k1 e1 p1 ∧ FrB B W w') :
    Calls Try.prog 39 #[.pointer (some ⟨B, 0, none⟩), .int .i64 kd] w fun e w' => e = .returned (.agg #[.int .i64 wk, .string wt, .int .i64 wp]) ∧ RfBox w' B sg s k1 (wantE s wk wp kd e1 p1).1 (wantE s wk wp kd e1 p1).2 ∧ FrB B w w' := by
  have B0 := alloc_below0 w (.cells #[.int .i64 0, .string ⟨#[]⟩, .int .i64 0] 71)
  have Z0 : Hid (WdBox (w.alloc (.cells #[.int .i64 0, .string ⟨#[]⟩, .int .i64 0] 71)) w.heap.size noWd) := World.alloc_heap_new w _
  have HC := hid (hc _ B0)
  have HB := hid B0
  obtain ⟨o, ho⟩ : ∃ o, wantE s wk wp kd e1 p1 = o := ⟨_, rfl⟩
  have HO := hid ho
  rw [ho]
  clear hc B0 ho
  go_enter Try.func39, Try.ntmps39
  go_wp2_with fail
  generalize w.alloc (.cells #[.int .i64 0, .string ⟨#[]⟩, .int .i64 0] 71) = V0 at Z0 HB HC ⊢
  refine HC.out.mono ?_
  rintro e w1 ⟨rfl, hrb, hf1⟩
  have hz1 := hf1.low.size
  have hzV := Z0.out.ltB
  have B1 := alloc_below0 w1 (.cells #[.int .i64 wk, .string wt, .int .i64 wp] 71)
  have R1 := hid (hrb.below B1)
  have W1 : Hid (WdBox (w1.alloc (.cells #[.int .i64 wk, .string wt, .int .i64 wp] 71)) w1.heap.size ⟨wk, wt, wp⟩) := World.alloc_heap_new w1 _
  have Z1 : Hid (WdBox (w1.alloc (.cells #[.int .i64 wk, .string wt, .int .i64 wp] 71)) w.heap.size noWd) := hid (WdBox.later ((hf1.same _ hzV (by omega)).trans Z0.out) B1)
  have F1 : Hid (FrB B w (w1.alloc (.cells #[.int .i64 wk, .string wt, .int .i64 wp] 71))) := hid (((Fr.of_below HB.out).trans hf1).trans (Fr.of_below B1))
  have hzW : (w1.alloc (.cells #[.int .i64 wk, .string wt, .int .i64 wp] 71)).heap.size = w1.heap.size + 1 := World.size_alloc _ _
  clear hrb hf1 B1 HC Z0
  have FIN : ∀ (W : World) (e2 : Int) (p2 : Nat), RfBox W B sg s k1 e2 p2 → WdBox W w.heap.size noWd → FrB B w W → (e2, p2) = o → (RfBox (((W.setCell ⟨w.heap.size, 0, none⟩ (.int .i64 wk)).setCell ⟨w.heap.size, 1, none⟩ (.string wt)).setCell ⟨w.heap.size, 2, none⟩ (.int .i64 wp)) B sg s k1 o.1 o.2 ∧ WdBox (((W.setCell ⟨w.heap.size, 0, none⟩ (.int .i64 wk)).setCell ⟨w.heap.size, 1, none⟩ (.string wt)).setCell ⟨w.heap.size, 2, none⟩ (.int .i64 wp)) w.heap.size ⟨wk, wt, wp⟩ ∧ FrB B w (((W.setCell ⟨w.heap.size, 0, none⟩ (.int .i64 wk)).setCell ⟨w.heap.size, 1, none⟩ (.string wt)).setCell ⟨w.heap.size, 2, none⟩ (.int .i64 wp))) := by
    intro W e2 p2 h1 h2 h3 h4
    subst h4
    exact ⟨(sets_far (by omega) _ _ _).trans h1, WdBox.all (y := noWd) h2 ⟨wk, wt, wp⟩, frB_sets h3 (Nat.le_refl _) _ _ _⟩
  have HFIN := hid FIN
  clear FIN
  have c3 := R1.out.c3; have c1 := R1.out.c1
  have y0 := W1.out.k0; have y1 := W1.out.k1; have y2 := W1.out.k2
  have r0 := Z1.out.k0; have r1 := Z1.out.k1; have r2 := Z1.out.k2
  have z0 := Z1.out.fz (i := 0); have z1 := Z1.out.fz (i := 1); have z2 := Z1.out.fz (i := 2)
  have n1 : ¬ w.heap.size = w1.heap.size := by omega
  by_cases he : e1 = 0
  · subst he
    have ho := HO.out
    unfold wantE at ho
    rw [if_pos rfl] at ho
    by_cases hk0 : wk = 0
    · subst hk0
      rw [if_pos rfl] at ho
      have HO2 := hid ho
      clear ho HO
      go_wp2_with fail
      generalize w1.alloc (.cells #[.int .i64 0, .string wt, .int .i64 wp] 71) = V1 at R1 W1 Z1 F1 hzW c1 c3 y0 y1 y2 r0 r1 r2 z0 z1 z2 ⊢
      refine (fails_rf B sg s k1 p1 0 51 s.size V1 R1.out).mono ?_
      rintro e w2 ⟨rfl, hrb2, hf2⟩
      rw [if_pos rfl, if_pos rfl] at hrb2
      have hz2 := hf2.low.size
      have W2 : WdBox w2 w1.heap.size ⟨0, wt, wp⟩ := (hf2.same _ (by omega) (by omega)).trans W1.out
      have Z2 : WdBox w2 w.heap.size noWd := (hf2.same _ (by omega) (by omega)).trans Z1.out
      have F2 := hid (F1.out.trans hf2)
      have R2 := hid hrb2; have HZ2 := hid Z2
      have d3 := hrb2.c3
      have a0 := W2.k0; have a1 := W2.k1; have a2 := W2.k2
      have b0 := Z2.k0; have b1 := Z2.k1; have b2 := Z2.k2
      have g0 := Z2.fz (i := 0); have g1 := Z2.fz (i := 1); have g2 := Z2.fz (i := 2)
      clear hrb2 hf2 W2 Z2 c1 c3 y0 y1 y2 r0 r1 r2 z0 z1 z2
      go_wp2
      obtain ⟨q1, q2, q3⟩ := HFIN.out w2 51 s.size R2.out HZ2.out F2.out HO2.out
      refine ret_wd rfl rfl q2 rfl ?_
      exact ⟨rfl, q1, q3⟩
    · have hk0b : (wk == 0) = false := by simpa using hk0
      rw [if_neg hk0] at ho
      by_cases hkd : wk = kd
      · subst hkd
        rw [if_pos rfl] at ho
        have HO2 := hid ho
        clear ho HO
        go_wp2
        obtain ⟨q1, q2, q3⟩ := HFIN.out _ 0 p1 R1.out Z1.out F1.out HO2.out
        refine ret_wd rfl rfl q2 rfl ?_
        exact ⟨rfl, q1, q3⟩
      · rw [if_neg hkd] at ho
        have hkb : (wk != kd) = true := by simpa using hkd
        have HO2 := hid ho
        clear ho HO
        go_wp2_with fail
        generalize w1.alloc (.cells #[.int .i64 wk, .string wt, .int .i64 wp] 71) = V1 at R1 W1 Z1 F1 hzW c1 c3 y0 y1 y2 r0 r1 r2 z0 z1 z2 ⊢
        refine (fails_rf B sg s k1 p1 0 52 wp V1 R1.out).mono ?_
        rintro e w2 ⟨rfl, hrb2, hf2⟩
        rw [if_pos rfl, if_pos rfl] at hrb2
        have hz2 := hf2.low.size
        have W2 : WdBox w2 w1.heap.size ⟨wk, wt, wp⟩ := (hf2.same _ (by omega) (by omega)).trans W1.out
        have Z2 : WdBox w2 w.heap.size noWd := (hf2.same _ (by omega) (by omega)).trans Z1.out
        have F2 := hid (F1.out.trans hf2)
        have R2 := hid hrb2; have HZ2 := hid Z2
        have a0 := W2.k0; have a1 := W2.k1; have a2 := W2.k2
        have b0 := Z2.k0; have b1 := Z2.k1; have b2 := Z2.k2
        have g0 := Z2.fz (i := 0); have g1 := Z2.fz (i := 1); have g2 := Z2.fz (i := 2)
        clear hrb2 hf2 W2 Z2 c1 c3 y0 y1 y2 r0 r1 r2 z0 z1 z2
        go_wp2
        obtain ⟨q1, q2, q3⟩ := HFIN.out w2 52 wp R2.out HZ2.out F2.out HO2.out
        refine ret_wd rfl rfl q2 rfl ?_
        exact ⟨rfl, q1, q3⟩
  · have hne : (e1 == 0) = false := by simpa using he
    have ho := HO.out
    unfold wantE at ho
    rw [if_neg he] at ho
    have HO2 := hid ho
    clear ho HO
    go_wp2
    obtain ⟨q1, q2, q3⟩ := HFIN.out _ e1 p1 R1.out Z1.out F1.out HO2.out
    refine ret_wd rfl rfl q2 rfl ?_
    exact ⟨rfl, q1, q3⟩

/-- What want does: behind an error nothing. -/
def WantEnd (B : Nat) (sg : Value) (s : ByteArray) (k : Nat) (kd er : Int) (p : Nat) (w : World) (e : Ending) (w' : World) : Prop :=
  ∃ (wk : Int) (wt : ByteArray) (wp k' : Nat) (e2 : Int) (p2 : Nat), e = .returned (.agg #[.int .i64 wk, .string wt, .int .i64 wp]) ∧ RfBox w' B sg s k' e2 p2 ∧ FrB B w w' ∧ ((er ≠ 0 ∧ e2 = er ∧ p2 = p) ∨ (er = 0 ∧ match wantP s k kd with | .error q => e2 = q.1 ∧ p2 = q.2 ∧ e2 ≠ 0 | .ok r => e2 = 0 ∧ p2 = p ∧ k' = r.to ∧ wt = r.word.text ∧ k' ≤ s.size))
theorem want_rf (B : Nat) (sg : Value) (s : ByteArray) (k p : Nat) (kd er : Int) (w : World) (hB : RfBox w B sg s k er p) (hs : s.size ≤ maxLen) (hk : er = 0 → k ≤ s.size) :
    Calls Try.prog 39 #[.pointer (some ⟨B, 0, none⟩), .int .i64 kd] w fun e w' => WantEnd B sg s k kd er p w e w' := by
  by_cases he : er = 0
  · subst he
    have hk' := hk rfl
    have hc : ∀ W, Below w.heap.size w W → _ := fun W hW => word_rf B sg s k p 0 W (hB.below hW) hs hk'
    unfold wordF at hc
    rw [if_pos rfl] at hc
    have hto := nx_to (s := s) (k := k) hk'
    unfold WantEnd
    unfold wantP nextP lookP
    obtain ⟨r, hr⟩ : ∃ r, nx s k = r := ⟨_, rfl⟩
    rw [hr] at hc hto ⊢
    obtain ⟨⟨wk, wt, wp⟩, te, e0⟩ := r
    dsimp only at hc hto ⊢
    by_cases h0 : e0 = 0
    · rw [if_pos h0] at hc ⊢
      dsimp only at hc ⊢
      refine (want_of B sg s kd wt wk wp _ _ _ w hB.lt hc).mono ?_
      rintro e w' ⟨rfl, h1, h2⟩
      refine ⟨wk, wt, wp, _, _, _, rfl, h1, h2, .inr ⟨rfl, ?_⟩⟩
      unfold wantE
      rw [if_pos rfl]
      by_cases hk0 : wk = 0
      · rw [if_pos hk0]
        rw [if_pos hk0]
        exact ⟨rfl, rfl, show (51 : Int) ≠ 0 by decide⟩
      · rw [if_neg hk0]
        dsimp only
        rw [if_neg hk0]
        by_cases hkk : wk = kd
        · rw [if_pos hkk, if_pos hkk]
          exact ⟨rfl, rfl, by rw [if_neg hk0], rfl, by rw [if_neg hk0]; exact (hto hk0).2⟩
        · rw [if_neg hkk, if_neg hkk]
          exact ⟨rfl, rfl, show (52 : Int) ≠ 0 by decide⟩
    · rw [if_neg h0] at hc ⊢
      dsimp only at hc ⊢
      refine (want_of B sg s kd _ _ _ _ _ _ w hB.lt hc).mono ?_
      rintro e w' ⟨rfl, h1, h2⟩
      refine ⟨_, _, _, _, _, _, rfl, h1, h2, .inr ⟨rfl, ?_⟩⟩
      unfold wantE
      rw [if_neg h0]
      exact ⟨rfl, rfl, h0⟩
  · have hc : ∀ W, Below w.heap.size w W → _ := fun W hW => word_err B sg s k p er W (hB.below hW) he
    refine (want_of B sg s kd _ _ _ _ _ _ w hB.lt hc).mono ?_
    rintro e w' ⟨rfl, h1, h2⟩
    refine ⟨_, _, _, _, _, _, rfl, h1, h2, .inl ⟨he, ?_⟩⟩
    unfold wantE
    rw [if_neg he]
    exact ⟨rfl, rfl⟩
end Go.Proofs.Ytkcbhbkldcebiaa

namespace Go.Proofs.Ytkcbhbkldcebiaa
open Go.RowKit Go.Deep

set_option maxRecDepth 100000 in
set_option maxHeartbeats 2000000 in
/-- Behind an error nothing is read. -/
theorem rterm_err2 (B : Nat) (sg : Value) (s : ByteArray) (k p : Nat) (er : Int) (w : World) (hB : RfBox w B sg s k er p) (he : er ≠ 0) :
    Calls Try.prog 34 #[.pointer (some ⟨B, 0, none⟩)] w fun e w' => e = .returned (.agg #[.string ⟨#[]⟩, .int .i64 0, .slice none 0 0]) ∧ RfBox w' B sg s k er p ∧ FrB B w w' := by
  have hne : (er == 0) = false := by simpa using he
  have hnb : (er != 0) = true := by simpa using he
  have B0 := alloc_below0 w (.cells #[.string ⟨#[]⟩, .int .i64 0, .slice none 0 0] 28)
  have HB0 := hid (hB.below B0)
  have F0 : Hid (FrB B w (w.alloc (.cells #[.string ⟨#[]⟩, .int .i64 0, .slice none 0 0] 28))) := hid (Fr.of_below B0)
  have X0 : Hid (XBox (w.alloc (.cells #[.string ⟨#[]⟩, .int .i64 0, .slice none 0 0] 28)) w.heap.size (⟨#[]⟩, 0) (.slice none 0 0)) := World.alloc_heap_new w _
  have hc := word_err B sg s k p er _ HB0.out he
  have HC := hid hc
  have ne2 : B ≠ w.heap.size := by have := hB.lt; omega
  clear hc B0 hB
  go_enter Try.func34, Try.ntmps34
  go_wp2_with fail
  refine HC.out.mono ?_
  rintro e w1 ⟨rfl, hrb, hf1⟩
  have hw1 := hf1.low.size
  rw [World.size_alloc] at hw1
  have B1 := alloc_below0 w1 (.cells #[.int .i64 0, .string ⟨#[]⟩, .int .i64 0] 71)
  have R1 := hid (hrb.below B1)
  have X1 : Hid (XBox (w1.alloc (.cells #[.int .i64 0, .string ⟨#[]⟩, .int .i64 0] 71)) w.heap.size (⟨#[]⟩, 0) (.slice none 0 0)) := hid (XBox.below ((hf1.same _ X0.out.lt (by omega)).trans X0.out) B1)
  have F1 : Hid (FrB B w (w1.alloc (.cells #[.int .i64 0, .string ⟨#[]⟩, .int .i64 0] 71))) := hid ((F0.out.trans hf1).trans (Fr.of_below B1))
  clear hrb hf1 B1 HC HB0 F0 X0
  have c3 := R1.out.c3
  have r0 := X1.out.c0; have r1 := X1.out.c1; have r2 := X1.out.c2
  have z0 := X1.out.f (k := 0); have z1 := X1.out.f (k := 1); have z2 := X1.out.f (k := 2)
  go_wp2
  refine bodyPost_ret (results_cell_row rfl _ _ w.heap.size 28 #[.string ⟨#[]⟩, .int .i64 0, .slice none 0 0] (0, 0) _ rfl (X1.out.all (x := ((⟨#[]⟩ : ByteArray), (0 : Int))) _) Try.underlying28 rfl Try.size28) rfl ?_
  exact ⟨rfl, (sets_far ne2 _ _ _).trans R1.out, frB_sets F1.out (Nat.le_refl _) _ _ _⟩
/-- The document's term, at any time. -/
def GenEnd (B : Nat) (sg : Value) (s : ByteArray) (l : List Sym) (k : Nat) (er : Int) (p : Nat) (w : World) (e : Ending) (w' : World) : Prop :=
  ∃ (x : ByteArray × Int) (a : Option Addr) (n c k' : Nat) (e2 : Int) (p2 : Nat), e = .returned (.agg #[.string x.1, .int .i64 x.2, .slice a n c]) ∧ RfBox w' B sg s k' e2 p2 ∧ FrB B w w' ∧ ((er ≠ 0 ∧ e2 = er ∧ p2 = p) ∨ (er = 0 ∧ e2 ≠ 0 ∧ rdC s l false k = .error (e2, p2)) ∨ (er = 0 ∧ e2 = 0 ∧ p2 = p ∧ k' ≤ s.size ∧ ∃ m, n = lenF m ∧ OwnTm false (fun q => w.heap.size ≤ q) w' x a c m ∧ rdC s l false k = .ok (.node 0 0 x m .nil, k')))
theorem rterm_gen {w0 : World} {B : Nat} {S : Option Addr} {n cap : Nat} {l : List Sym} {s : ByteArray} (hB0 : w0.heap.size ≤ B) (hS : SigAt w0 S n l) (k p : Nat) (er : Int) (w : World) (hB : RfBox w B (.slice S n cap) s k er p) (hL : Below w0.heap.size w0 w) (hk : er = 0 → k ≤ s.size ∧ s.size ≤ 800) :
    Calls Try.prog 34 #[.pointer (some ⟨B, 0, none⟩)] w fun e w' => GenEnd B (.slice S n cap) s l k er p w e w' := by
  by_cases he : er = 0
  · subst he
    obtain ⟨hk1, hs⟩ := hk rfl
    refine (rterm_all (cap := cap) hB0 hs hS s.size k p w hk1 (Nat.sub_le _ _) hB hL).mono ?_
    rintro e w' ht
    unfold RTermEnd at ht
    cases hr : rdC s l false k with
    | error q =>
      rw [hr] at ht
      obtain ⟨⟨x, a, n', c, k', rfl, hb⟩, hf⟩ := ht
      exact ⟨x, a, n', c, k', q.1, q.2, rfl, hb, hf, .inr (.inl ⟨rfl, rdC_err s.size false k q hk1 (Nat.sub_le _ _) hr, hr⟩)⟩
    | ok q =>
      rw [hr] at ht
      obtain ⟨F, k'⟩ := q
      obtain ⟨⟨x, m, a, c, rfl, rfl, ho, hb⟩, hf⟩ := ht
      exact ⟨x, a, _, c, k', 0, p, rfl, hb, hf, .inr (.inr ⟨rfl, rfl, rfl, (rdC_to hk1 hr).2, m, rfl, ho, hr⟩)⟩
  · refine (rterm_err2 B _ s k p er w hB he).mono ?_
    rintro e w' ⟨rfl, hr, hf⟩
    exact ⟨(⟨#[]⟩, 0), none, 0, 0, k, er, p, rfl, hr, hf, .inl ⟨he, rfl, rfl⟩⟩

theorem fullE_pre (s : ByteArray) (l : List Sym) : fullE s l = (match preR s l with
    | .error e => .error e
    | .ok (.nil, _) => .error (0, 0)
    | .ok (.node _ _ x m _, k1) => match wantP s k1 6 with
      | .error e => .error e
      | .ok r => match rdC s l false r.to with
        | .error e => .error e
        | .ok (.nil, _) => .error (0, 0)
        | .ok (.node _ _ y u _, k2) => match endR s k2 with
          | .error e => .error e
          | .ok _ => if chk l x m = 0 then (if chk l y u = 0 then .ok ((x, m), (y, u)) else .error (chk l y u, 0)) else .error (chk l x m, 0)) := by
  unfold fullE preR
  by_cases hs : 800 < s.size
  · rw [if_pos hs, if_pos hs]
  · rw [if_neg hs, if_neg hs]
    unfold eqC
    cases rdC s l false 0 with
    | error e => rfl
    | ok q =>
      obtain ⟨F, k⟩ := q
      cases F with
      | nil => rfl
      | node h sz x m r =>
        dsimp only
        cases wantP s k 6 with
        | error e => rfl
        | ok r =>
          dsimp only
          cases rdC s l false r.to with
          | error e => rfl
          | ok q =>
            obtain ⟨G, k2⟩ := q
            cases G with
            | nil => rfl
            | node h sz y u r => rfl
theorem ebox_drew {W : World} {B : Nat} {x y : ByteArray × Int} {v u : Value} (h : EBox W B x v y u) : EBox W.drew B x v y u := h

set_option maxRecDepth 100000 in
set_option maxHeartbeats 8000000 in
/-- The document's Equation of a text. -/
theorem rdocE_any (S : Option Addr) (n cap : Nat) (l : List Sym) (s : ByteArray) (w : World) (hS : SigAt w S n l) (hsm : s.size ≤ maxLen) :
    Calls Try.prog 14 #[.slice S n cap, .string s] w fun e w' => FullEEnd w (fullE s l) e w' := by
  have B0 := alloc_below0 w (.cells #[.string ⟨#[]⟩, .int .i64 0, .slice none 0 0, .string ⟨#[]⟩, .int .i64 0, .slice none 0 0] 35)
  have X0 : Hid (EBox (w.alloc (.cells #[.string ⟨#[]⟩, .int .i64 0, .slice none 0 0, .string ⟨#[]⟩, .int .i64 0, .slice none 0 0] 35)) w.heap.size (⟨#[]⟩, 0) (.slice none 0 0) (⟨#[]⟩, 0) (.slice none 0 0)) := World.alloc_heap_new w _
  have HB := hid B0
  have HS := hid hS
  obtain ⟨res, hres⟩ : ∃ res, fullE s l = res := ⟨_, rfl⟩
  have HRS := hid hres
  rw [hres]
  clear hres B0 hS
  go_enter Try.func14, Try.ntmps14
  go_wp2_with fail
  generalize w.alloc (.cells #[.string ⟨#[]⟩, .int .i64 0, .slice none 0 0, .string ⟨#[]⟩, .int .i64 0, .slice none 0 0] 35) = V0 at X0 HB ⊢
  refine (reader_rf S n cap s V0).mono ?_
  rintro e w1 ⟨rfl, hr1, hb1⟩
  have L1 := hid (HB.out.trans (hb1.mono HB.out.size))
  have X1 := hid (X0.out.below hb1)
  have hV0 : w.heap.size < V0.heap.size := X0.out.lt
  have hc := rterm_pre (w0 := w) (l := l) (by omega) HS.out w1 hr1 L1.out hsm
  have HC := hid hc
  have hB1 := hr1.lt
  clear hc hr1 hb1 X0
  go_wp2_with fail
  refine HC.out.mono ?_
  rintro e w2 ⟨x, ta, tn, tc, k2, er, p, rfl, hr2, hf2, hor⟩
  have hz2 := hf2.low.size
  have B2 := alloc_below0 w2 (.cells #[.string x.1, .int .i64 x.2, .slice ta tn tc] 28)
  have R2 := hid (hr2.below B2)
  have T2 : Hid (XBox (w2.alloc (.cells #[.string x.1, .int .i64 x.2, .slice ta tn tc] 28)) w2.heap.size x (.slice ta tn tc)) := World.alloc_heap_new w2 _
  have X2' : EBox w2 w.heap.size (⟨#[]⟩, 0) (.slice none 0 0) (⟨#[]⟩, 0) (.slice none 0 0) := (hf2.same w.heap.size (by omega) (by omega)).trans X1.out
  have X2 := hid (X2'.below B2)
  have F2 := hid (hf2.trans (Fr.of_below B2))
  have hV2s : (w2.alloc (.cells #[.string x.1, .int .i64 x.2, .slice ta tn tc] 28)).heap.size = w2.heap.size + 1 := World.size_alloc _ _
  have OR2 : Hid ((er ≠ 0 ∧ preR s l = .error (er, p)) ∨ (er = 0 ∧ p = 0 ∧ ∃ m, tn = lenF m ∧ OwnTm false (fun q => w1.heap.size ≤ q) (w2.alloc (.cells #[.string x.1, .int .i64 x.2, .slice ta tn tc] 28)) x ta tc m ∧ preR s l = .ok (.node 0 0 x m .nil, k2) ∧ k2 ≤ s.size)) := by
    rcases hor with h | ⟨h1, h0, m, h2, h3, h4, h5⟩
    · exact .inl h
    · exact .inr ⟨h1, h0, m, h2, h3.below B2, h4, h5⟩
  clear X2' hr2 hf2 hor B2 HC X1
  have c3 := R2.out.c3
  by_cases her : er = 0
  · subst her
    obtain ⟨_, h0, m, rfl, ho2, hpre, hk2⟩ := OR2.out.resolve_left (fun h => h.1 rfl)
    subst h0
    have h800 : s.size ≤ 800 := by
      unfold preR at hpre
      by_cases hs : 800 < s.size
      · rw [if_pos hs] at hpre; cases hpre
      · omega
    have HO2 := hid ho2
    have HPRE := hid hpre
    clear ho2 hpre OR2
    go_wp2_with fail
    generalize w2.alloc (.cells #[.string x.1, .int .i64 x.2, .slice ta (lenF m) tc] 28) = V2 at R2 T2 X2 F2 hV2s HO2 c3 ⊢
    refine (want_rf V0.heap.size (.slice S n cap) s k2 0 6 0 V2 R2.out hsm (fun _ => hk2)).mono ?_
    rintro e w3 ⟨wk, wt, wp, k3, e3, p3, rfl, hr3, hf3, hor3⟩
    have hz3 := hf3.low.size
    have T3' : XBox w3 w2.heap.size x (.slice ta (lenF m) tc) := (hf3.same _ T2.out.lt (by omega)).trans T2.out
    have X3' : EBox w3 w.heap.size (⟨#[]⟩, 0) (.slice none 0 0) (⟨#[]⟩, 0) (.slice none 0 0) := (hf3.same _ X2.out.lt (by omega)).trans X2.out
    have L3' : Below w.heap.size w w3 := low_fr (low_fr L1.out F2.out (by omega)) hf3 (by omega)
    have O3 := hid (HO2.out.keep (fun q hq hlt => hf3.same q hlt (by omega)))
    have hk3 : e3 = 0 → k3 ≤ s.size ∧ s.size ≤ 800 := fun h => by
      rcases hor3 with ⟨h1, _⟩ | ⟨_, h1⟩
      · exact absurd rfl h1
      · cases hw : wantP s k2 6 with
        | error q => rw [hw] at h1; exact absurd h h1.2.2
        | ok r => rw [hw] at h1; exact ⟨h1.2.2.2.2, h800⟩
    have hc4 := rterm_gen (w0 := w) (l := l) (cap := cap) (by omega) HS.out k3 p3 e3 w3 hr3 L3' hk3
    have T3 := hid T3'; have X3 := hid X3'; have HC4 := hid hc4; have L3 := hid L3'
    have W3 : Hid (match wantP s k2 6 with | .error q => e3 = q.1 ∧ p3 = q.2 ∧ e3 ≠ 0 | .ok r => e3 = 0 ∧ p3 = 0 ∧ k3 = r.to) := by
      show match wantP s k2 6 with | .error q => e3 = q.1 ∧ p3 = q.2 ∧ e3 ≠ 0 | .ok r => e3 = 0 ∧ p3 = 0 ∧ k3 = r.to
      rcases hor3 with ⟨h1, _⟩ | ⟨_, h1⟩
      · exact absurd rfl h1
      · cases hw : wantP s k2 6 with
        | error q => rw [hw] at h1; exact h1
        | ok r => rw [hw] at h1; exact ⟨h1.1, h1.2.1, h1.2.2.1⟩
    have hzT : w2.heap.size < w3.heap.size := T3'.lt
    clear hr3 hf3 hor3 T3' X3' L3' hc4 R2 T2 X2 F2 HO2 c3 hk3
    go_wp2_with fail
    refine HC4.out.mono ?_
    rintro e w4 ⟨y, ua, un, uc, k4, e4, p4, rfl, hr4, hf4, hor4⟩
    have hz4 := hf4.low.size
    have B4 := alloc_below0 w4 (.cells #[.string y.1, .int .i64 y.2, .slice ua un uc] 28)
    have R4 := hr4.below B4
    have U4 : Hid (XBox (w4.alloc (.cells #[.string y.1, .int .i64 y.2, .slice ua un uc] 28)) w4.heap.size y (.slice ua un uc)) := World.alloc_heap_new w4 _
    have T4' : XBox w4 w2.heap.size x (.slice ta (lenF m) tc) := (hf4.same _ hzT (by omega)).trans T3.out
    have T4 := hid (T4'.below B4)
    have X4' : EBox w4 w.heap.size (⟨#[]⟩, 0) (.slice none 0 0) (⟨#[]⟩, 0) (.slice none 0 0) := (hf4.same _ X3.out.lt (by omega)).trans X3.out
    have X4 := hid (X4'.below B4)
    have F4 := hid (hf4.trans (Fr.of_below B4))
    have O4 := hid ((O3.out.keep (fun q hq hlt => hf4.same q hlt (by omega))).below B4)
    have hV4s : (w4.alloc (.cells #[.string y.1, .int .i64 y.2, .slice ua un uc] 28)).heap.size = w4.heap.size + 1 := World.size_alloc _ _
    have hk4 : e4 = 0 → k4 ≤ s.size := fun h => by
      rcases hor4 with ⟨h1, h2, _⟩ | ⟨_, h1, _⟩ | h1
      · exact absurd (h2.symm.trans h) h1
      · exact absurd h h1
      · exact h1.2.2.2.1
    have hc5 := rest_any V0.heap.size (.slice S n cap) s k4 p4 e4 _ R4 hsm hk4
    have HC5 := hid hc5
    have OR4 : Hid ((e3 ≠ 0 ∧ e4 = e3 ∧ p4 = p3) ∨ (e3 = 0 ∧ e4 ≠ 0 ∧ rdC s l false k3 = .error (e4, p4)) ∨ (e3 = 0 ∧ e4 = 0 ∧ p4 = p3 ∧ ∃ u, un = lenF u ∧ OwnTm false (fun q => w3.heap.size ≤ q) (w4.alloc (.cells #[.string y.1, .int .i64 y.2, .slice ua un uc] 28)) y ua uc u ∧ rdC s l false k3 = .ok (.node 0 0 y u .nil, k4))) := by
      rcases hor4 with h | h | ⟨h1, h2, h3, _, u, h4, h5, h6⟩
      · exact .inl h
      · exact .inr (.inl h)
      · exact .inr (.inr ⟨h1, h2, h3, u, h4, h5.below B4, h6⟩)
    clear hc5 hk4 hor4 hr4 hf4 B4 R4 T4' X4' HC4 T3 X3 O3
    go_wp2_with fail
    generalize w4.alloc (.cells #[.string y.1, .int .i64 y.2, .slice ua un uc] 28) = V4 at HC5 U4 T4 X4 F4 O4 OR4 hV4s ⊢
    refine HC5.out.mono ?_
    rintro e w5 ⟨rfl, ⟨k5, hr5⟩, hf5⟩
    obtain ⟨e5, p5, he5⟩ : ∃ e5 p5, restF s k4 e4 p4 = (e5, p5) := ⟨_, _, rfl⟩
    rw [he5] at hr5
    dsimp only at hr5
    have hz5 := hf5.low.size
    have FIN : Hid ((e5 ≠ 0 ∧ res = .error (e5, p5)) ∨ (e5 = 0 ∧ p5 = 0 ∧ ∃ u, un = lenF u ∧ OwnTm false (fun q => w3.heap.size ≤ q) w5 y ua uc u ∧ res = if chk l x m = 0 then (if chk l y u = 0 then .ok ((x, m), (y, u)) else .error (chk l y u, 0)) else .error (chk l x m, 0))) := by
      have h := HRS.out
      rw [fullE_pre, HPRE.out] at h
      dsimp only at h
      unfold restF at he5
      have h3 := W3.out
      cases hw : wantP s k2 6 with
      | error q =>
        rw [hw] at h h3
        dsimp only at h h3
        obtain ⟨rfl, rfl, h3⟩ := h3
        rcases OR4.out with ⟨_, h4, h5⟩ | ⟨h4, _⟩ | ⟨h4, _⟩
        · rw [h4, h5, if_neg h3] at he5
          cases he5
          exact .inl ⟨h3, h.symm⟩
        · exact absurd h4 h3
        · exact absurd h4 h3
      | ok r =>
        rw [hw] at h h3
        dsimp only at h h3
        obtain ⟨h3a, h3b, h3c⟩ := h3
        subst h3c
        rcases OR4.out with ⟨h4, _⟩ | ⟨_, h4, h5⟩ | ⟨_, h4, h5, u, h6, h7, h8⟩
        · exact absurd h3a h4
        · rw [if_neg h4] at he5
          cases he5
          rw [h5] at h
          exact .inl ⟨h4, h.symm⟩
        · rw [if_pos h4] at he5
          rw [h8] at h
          dsimp only at h
          cases hen : endR s k4 with
          | error q =>
            rw [hen] at he5 h
            dsimp only at he5 h
            subst he5
            exact .inl ⟨end_err hen, h.symm⟩
          | ok q =>
            rw [hen] at he5 h
            dsimp only at he5 h
            cases he5
            exact .inr ⟨rfl, by rw [h5, h3b], u, h6, h7.keep (fun q hq hlt => hf5.same q hlt (by omega)), h.symm⟩
    have T5' : XBox w5 w2.heap.size x (.slice ta (lenF m) tc) := (hf5.same _ T4.out.lt (by omega)).trans T4.out
    have U5' : XBox w5 w4.heap.size y (.slice ua un uc) := (hf5.same _ U4.out.lt (by omega)).trans U4.out
    have X5' : EBox w5 w.heap.size (⟨#[]⟩, 0) (.slice none 0 0) (⟨#[]⟩, 0) (.slice none 0 0) := (hf5.same _ X4.out.lt (by omega)).trans X4.out
    have L5 : Hid (Below w.heap.size w w5) := hid (low_fr (low_fr L3.out F4.out (by omega)) hf5 (by omega))
    have O5 := hid (O4.out.keep (fun q hq hlt => hf5.same q hlt (by omega)))
    have R5 := hid hr5; have T5 := hid T5'; have U5 := hid U5'; have X5 := hid X5'
    clear hr5 hf5 he5 T5' U5' X5' HC5 U4 T4 X4 F4 O4 OR4 HRS W3 HPRE
    have c3 := R5.out.c3; have c4 := R5.out.c4
    have r0 := X5.out.c 0; have r1 := X5.out.c 1; have r2 := X5.out.c 2; have r3 := X5.out.c 3; have r4 := X5.out.c 4; have r5 := X5.out.c 5
    have z0 := X5.out.f 0; have z1 := X5.out.f 1; have z2 := X5.out.f 2; have z3 := X5.out.f 3; have z4 := X5.out.f 4; have z5 := X5.out.f 5
    by_cases h50 : e5 = 0
    · subst h50
      obtain ⟨_, h0, u, rfl, hu5, hres⟩ := FIN.out.resolve_left (fun h => h.1 rfl)
      subst h0
      have HU5 := hid hu5; have HR5 := hid hres
      have hc6 := checks_rf V0.heap.size S n cap l s k5 0 x m ta tc w5 R5.out (HS.out.below L5.out) O5.out.tm
      have HC6 := hid hc6
      have u0 := T5.out.c0; have u1 := T5.out.c1; have u2 := T5.out.c2
      clear hc6 hu5 hres FIN
      go_wp2_with fail
      refine HC6.out.mono ?_
      rintro e w6 ⟨rfl, hr6, hf6⟩
      have hz6 := hf6.low.size
      have U6' : XBox w6 w4.heap.size y (.slice ua (lenF u) uc) := (hf6.same _ U5.out.lt (by omega)).trans U5.out
      have T6' : XBox w6 w2.heap.size x (.slice ta (lenF m) tc) := (hf6.same _ T5.out.lt (by omega)).trans T5.out
      have X6' : EBox w6 w.heap.size (⟨#[]⟩, 0) (.slice none 0 0) (⟨#[]⟩, 0) (.slice none 0 0) := (hf6.same _ X5.out.lt (by omega)).trans X5.out
      have L6 : Hid (Below w.heap.size w w6) := hid (low_fr L5.out hf6 (by omega))
      have O6 := hid (O5.out.keep (fun q hq hlt => hf6.same q hlt (by omega)))
      have HU6 := hid (HU5.out.keep (fun q hq hlt => hf6.same q hlt (by omega)))
      have hp0 : (if chk l x m = 0 then 0 else 0) = 0 := by split <;> rfl
      rw [hp0] at hr6
      have R6 := hid hr6; have U6 := hid U6'; have T6 := hid T6'; have X6 := hid X6'
      have hzU : w4.heap.size < w6.heap.size := U6'.lt
      have hzT6 : w2.heap.size < w6.heap.size := T6'.lt
      have d3 := hr6.c3; have d4 := hr6.c4
      have g0 := X6'.c 0; have g1 := X6'.c 1; have g2 := X6'.c 2; have g3 := X6'.c 3; have g4 := X6'.c 4; have g5 := X6'.c 5
      have h0 := X6'.f 0; have h1 := X6'.f 1; have h2 := X6'.f 2; have h3 := X6'.f 3; have h4 := X6'.f 4; have h5 := X6'.f 5
      clear hr6 hf6 U6' T6' X6' HC6 c3 c4 r0 r1 r2 r3 r4 r5 z0 z1 z2 z3 z4 z5 u0 u1 u2 R5 T5 U5 X5 O5 HU5
      by_cases hch : chk l x m = 0
      · have hres := HR5.out
        rw [if_pos hch] at hres
        have HR6 := hid hres
        rw [hch] at d3
        have R6z : RfBox w6 V0.heap.size (.slice S n cap) s k5 0 0 := by have := R6.out; rw [hch] at this; exact this
        have hc7 := checks_rf V0.heap.size S n cap l s k5 0 y u ua uc w6 R6z (HS.out.below L6.out) HU6.out.tm
        have HC7 := hid hc7
        have v0 := U6.out.c0; have v1 := U6.out.c1; have v2 := U6.out.c2
        clear hc7 hres R6z HR5
        go_wp2_with fail
        refine HC7.out.mono ?_
        rintro e w7 ⟨rfl, hr7, hf7⟩
        have hz7 := hf7.low.size
        have U7' : XBox w7 w4.heap.size y (.slice ua (lenF u) uc) := (hf7.same _ hzU (by omega)).trans U6.out
        have T7' : XBox w7 w2.heap.size x (.slice ta (lenF m) tc) := (hf7.same _ hzT6 (by omega)).trans T6.out
        have X7' : EBox w7 w.heap.size (⟨#[]⟩, 0) (.slice none 0 0) (⟨#[]⟩, 0) (.slice none 0 0) := (hf7.same _ X6.out.lt (by omega)).trans X6.out
        have L7 : Hid (Below w.heap.size w w7) := hid (low_fr L6.out hf7 (by omega))
        have O7 := hid (O6.out.keep (fun q hq hlt => hf7.same q hlt (by omega)))
        have HU7 := hid (HU6.out.keep (fun q hq hlt => hf7.same q hlt (by omega)))
        have hp1 : (if chk l y u = 0 then 0 else 0) = 0 := by split <;> rfl
        rw [hp1] at hr7
        have X7 := hid X7'
        have f3 := hr7.c3; have f4 := hr7.c4
        have t0 := T7'.c0; have t1 := T7'.c1; have t2 := T7'.c2
        have m0 := U7'.c0; have m1 := U7'.c1; have m2 := U7'.c2
        have i0 := X7'.c 0; have i1 := X7'.c 1; have i2 := X7'.c 2; have i3 := X7'.c 3; have i4 := X7'.c 4; have i5 := X7'.c 5
        have j0 := X7'.f 0; have j1 := X7'.f 1; have j2 := X7'.f 2; have j3 := X7'.f 3; have j4 := X7'.f 4; have j5 := X7'.f 5
        clear hr7 hf7 U7' T7' X7' HC7 d3 d4 g0 g1 g2 g3 g4 g5 h0 h1 h2 h3 h4 h5 v0 v1 v2 R6 T6 U6 X6 O6 HU6
        by_cases hcu : chk l y u = 0
        · have hres := HR6.out
          rw [if_pos hcu] at hres
          subst hres
          rw [hcu] at f3
          have n1 : ¬ w.heap.size = w2.heap.size := by omega
          have n2 : ¬ w.heap.size = w4.heap.size := by omega
          go_wp2
          refine ret_eq3 rfl rfl (ebox_all X7.out x y (.slice ta (lenF m) tc) (.slice ua (lenF u) uc)) rfl ?_
          exact ⟨⟨ta, tc, ua, uc, rfl, (O7.out.keep (fun q hq _ => sets_far6 (by omega) _ _ _ _ _ _)).mono (fun q _ hq => by omega), (HU7.out.keep (fun q hq _ => sets_far6 (by omega) _ _ _ _ _ _)).mono (fun q _ hq => by omega)⟩, sets_low6 L7.out (Nat.le_refl _) _ _ _ _ _ _⟩
        · have hres := HR6.out
          rw [if_neg hcu] at hres
          subst hres
          have hnb : (chk l y u != 0) = true := by simpa using hcu
          go_wp2
          go_region
          all_goals
            go_wp2
            refine ret_eq3 rfl rfl (ebox_drew (ebox_all X7.out (⟨#[]⟩, 0) (⟨#[]⟩, 0) (.slice none 0 0) (.slice none 0 0))) rfl ?_
            exact ⟨rfl, (sets_low6 L7.out (Nat.le_refl _) _ _ _ _ _ _).drew⟩
      · have hres := HR5.out
        rw [if_neg hch] at hres
        subst hres
        have hnb : (chk l x m != 0) = true := by simpa using hch
        have hnc : (chk l x m == 0) = false := by simpa using hch
        go_wp2
        go_region
        all_goals
          go_wp2
          refine ret_eq3 rfl rfl (ebox_drew (ebox_all X6.out (⟨#[]⟩, 0) (⟨#[]⟩, 0) (.slice none 0 0) (.slice none 0 0))) rfl ?_
          exact ⟨rfl, (sets_low6 L6.out (Nat.le_refl _) _ _ _ _ _ _).drew⟩
    · obtain ⟨_, hres⟩ := FIN.out.resolve_right (fun h => h50 h.1)
      subst hres
      have hnb : (e5 != 0) = true := by simpa using h50
      have hnc : (e5 == 0) = false := by simpa using h50
      clear FIN
      go_wp2
      go_region
      all_goals
        go_wp2
        refine ret_eq3 rfl rfl (ebox_drew (ebox_all X5.out (⟨#[]⟩, 0) (⟨#[]⟩, 0) (.slice none 0 0) (.slice none 0 0))) rfl ?_
        exact ⟨rfl, (sets_low6 L5.out (Nat.le_refl _) _ _ _ _ _ _).drew⟩
  · obtain ⟨_, hpre⟩ := OR2.out.resolve_right (fun h => her h.1)
    have hres := HRS.out
    rw [fullE_pre, hpre] at hres
    dsimp only at hres
    have hnc : (er == 0) = false := by simpa using her
    have hnb : (er != 0) = true := by simpa using her
    clear hpre OR2 HRS
    go_wp2_with fail
    generalize w2.alloc (.cells #[.string x.1, .int .i64 x.2, .slice ta tn tc] 28) = V2 at R2 T2 X2 F2 hV2s c3 ⊢
    refine (rterm_err2 V0.heap.size (.slice S n cap) s k2 p er V2 R2.out her).mono ?_
    rintro e w3 ⟨rfl, hr3, hf3⟩
    have hz3 := hf3.low.size
    have B3 := alloc_below0 w3 (.cells #[.string ⟨#[]⟩, .int .i64 0, .slice none 0 0] 28)
    have R3 := hid (hr3.below B3)
    have X3' : EBox w3 w.heap.size (⟨#[]⟩, 0) (.slice none 0 0) (⟨#[]⟩, 0) (.slice none 0 0) := (hf3.same _ X2.out.lt (by omega)).trans X2.out
    have X3 := hid (X3'.below B3)
    have F3 := hid ((F2.out.trans hf3).trans (Fr.of_below B3))
    have hV3s : (w3.alloc (.cells #[.string ⟨#[]⟩, .int .i64 0, .slice none 0 0] 28)).heap.size = w3.heap.size + 1 := World.size_alloc _ _
    clear hr3 hf3 X3' B3 R2 T2 X2 F2 c3
    go_wp2_with fail
    generalize w3.alloc (.cells #[.string ⟨#[]⟩, .int .i64 0, .slice none 0 0] 28) = V3 at R3 X3 F3 hV3s ⊢
    refine (rest_any V0.heap.size (.slice S n cap) s k2 p er V3 R3.out hsm (fun h => absurd h her)).mono ?_
    rintro e w4 ⟨rfl, ⟨k4, hr4⟩, hf4⟩
    unfold restF at hr4
    rw [if_neg her] at hr4
    dsimp only at hr4
    have X4' : EBox w4 w.heap.size (⟨#[]⟩, 0) (.slice none 0 0) (⟨#[]⟩, 0) (.slice none 0 0) := (hf4.same _ X3.out.lt (by omega)).trans X3.out
    have X4 := hid X4'
    have L4 : Hid (Below w.heap.size w w4) := hid (low_fr (low_fr L1.out F3.out (by omega)) hf4 (by omega))
    have d3 := hr4.c3; have d4 := hr4.c4
    have g0 := X4'.c 0; have g1 := X4'.c 1; have g2 := X4'.c 2; have g3 := X4'.c 3; have g4 := X4'.c 4; have g5 := X4'.c 5
    have h0 := X4'.f 0; have h1 := X4'.f 1; have h2 := X4'.f 2; have h3 := X4'.f 3; have h4 := X4'.f 4; have h5 := X4'.f 5
    clear hr4 hf4 X4' R3 X3 F3
    subst hres
    go_wp2
    go_region
    all_goals
      go_wp2
      refine ret_eq3 rfl rfl (ebox_drew (ebox_all X4.out (⟨#[]⟩, 0) (⟨#[]⟩, 0) (.slice none 0 0) (.slice none 0 0))) rfl ?_
      exact ⟨rfl, (sets_low6 L4.out (Nat.le_refl _) _ _ _ _ _ _).drew⟩
end Go.Proofs.Ytkcbhbkldcebiaa

namespace Go.Proofs.Ytkcbhbkldcebiaa
open Go.RowKit Go.Deep

/-- A list of binds under way. -/
structure LstB (b : Nat) (W : World) (v : Value) (bs : List Bk) : Prop where
  row : W.ownsRow b 50 4 v bs.length (bkAll bs)
  own : ∀ x ∈ bs, OwnTm false (fun q => b ≤ q ∧ some q ≠ v.ownBlock) W x.2.x x.2.a x.2.c x.2.l
theorem LstB.nil (b : Nat) (W : World) : LstB b W (.slice none 0 0) [] := ⟨World.ownsRow_nil _ _ _ _, fun _ h => by cases h⟩
theorem LstB.fr {b B : Nat} {W W' : World} {v : Value} {bs : List Bk} (h : LstB b W v bs) (hF : FrB B W W') (hB : B < b) : LstB b W' v bs :=
  ⟨owns_block h.row (fun g hg => hF.same g (owns_ne h.row hg).2 (by have := (owns_ne h.row hg).1; omega)), fun x hx => (h.own x hx).keep (fun q hq hlt => hF.same q hlt (by have := hq.1; omega))⟩
theorem row_fr {b B : Nat} {W W' : World} {v : Value} {n : Nat} {xs : List Value} (h : W.ownsRow b 50 4 v n xs) (hF : FrB B W W') (hB : B < b) : W'.ownsRow b 50 4 v n xs :=
  owns_block h (fun g hg => hF.same g (owns_ne h hg).2 (by have := (owns_ne h hg).1; omega))
theorem LstB.push {b : Nat} {V w' : World} {v v' : Value} {bs : List Bk} {y : Bk} (h : LstB b V v bs) (hy : OwnTm false (fun q => b ≤ q ∧ some q ≠ v.ownBlock) V y.2.x y.2.a y.2.c y.2.l) (hg : V.grownBy w' v.ownBlock) (hat : v'.ownBlock = v.ownBlock ∨ v'.ownBlock = some V.heap.size) (ho : w'.ownsRow b 50 4 v' (bs ++ [y]).length (bkAll (bs ++ [y]))) : LstB b w' v' (bs ++ [y]) := by
  refine ⟨ho, fun x hx => ?_⟩
  have h1 : OwnTm false (fun q => b ≤ q ∧ some q ≠ v.ownBlock) V x.2.x x.2.a x.2.c x.2.l := by
    rcases List.mem_append.1 hx with hx | hx
    · exact h.own x hx
    · rw [List.mem_singleton.1 hx]; exact hy
  have h2 : OwnTm false (fun q => (b ≤ q ∧ some q ≠ v'.ownBlock) ∧ some q ≠ v.ownBlock) V x.2.x x.2.a x.2.c x.2.l := h1.mono (fun q hlt hq => ⟨⟨hq.1, by
    rcases hat with e | e
    · rw [e]; exact hq.2
    · rw [e]; intro e'; have := Option.some.inj e'; omega⟩, hq.2⟩)
  exact (h2.keep (fun q hq hlt => hg.block q hlt hq.2)).mono (fun q _ hq => hq.1)
theorem len_any (n : Nat) : ∃ m : Fo, lenF m = n := by
  induction n with
  | zero => exact ⟨.nil, rfl⟩
  | succ n ih =>
    obtain ⟨m, hm⟩ := ih
    exact ⟨.node 0 0 (⟨#[]⟩, 0) .nil m, by simp [lenF, hm]⟩
/-! ### the document's way -/
/-- What follows a bind. -/
def restB (s : ByteArray) (l : List Sym) (f k : Nat) : Except (Int × Nat) (List Bn) := match bsF s l f k with
  | .error e => .error e
  | .ok (L, k3) => match endR s k3 with
    | .error e => .error e
    | .ok _ => .ok L
theorem restB_succ (s : ByteArray) (l : List Sym) (f k : Nat) : restB s l (f + 1) k = (match lookP s k with
    | .error e => .error e
    | .ok r => if r.word.kind = 0 then .ok [] else if r.word.kind = 5 then (match bindC s l r.to with
        | .error e => .error e
        | .ok (v, t, k2) => match restB s l f k2 with
          | .error e => .error e
          | .ok L => .ok ((v, t) :: L)) else .error (54, r.word.place)) := by
  unfold restB
  rw [bsF]
  unfold passP
  cases hl : lookP s k with
  | error e => rfl
  | ok r =>
    dsimp only
    by_cases h5 : r.word.kind = 5
    · rw [if_pos h5, if_neg (by rw [h5]; decide), if_pos h5]
      dsimp only
      cases bindC s l r.to with
      | error e => rfl
      | ok q =>
        obtain ⟨v, t, k2⟩ := q
        dsimp only
        cases bsF s l f k2 with
        | error e => rfl
        | ok q =>
          obtain ⟨L, k3⟩ := q
          dsimp only
          cases endR s k3 with
          | error e => rfl
          | ok _ => rfl
    · rw [if_neg h5]
      dsimp only
      unfold endR
      rw [hl]
      dsimp only
      by_cases h0 : r.word.kind = 0
      · rw [if_pos h0, if_pos h0]
      · rw [if_neg h0, if_neg h0, if_neg h5]
/-- What is read, ahead of the checks. -/
def preB (s : ByteArray) (l : List Sym) : Except (Int × Nat) (List Bn) := if 800 < s.size then .error (55, 0) else match lookP s 0 with
  | .error e => .error e
  | .ok r => if r.word.kind = 0 then .ok [] else match bindC s l 0 with
    | .error e => .error e
    | .ok (v, t, k) => match restB s l (s.size + 1) k with
      | .error e => .error e
      | .ok L => .ok ((v, t) :: L)
theorem fullB_pre (s : ByteArray) (l : List Sym) : fullB s l = (match preB s l with
    | .error e => .error e
    | .ok L => if firstB l L = 0 then .ok L else .error (firstB l L, 0)) := by
  unfold fullB preB
  by_cases h8 : 800 < s.size
  · rw [if_pos h8, if_pos h8]
  · rw [if_neg h8, if_neg h8]
    unfold bindsC
    cases hl : lookP s 0 with
    | error e => rfl
    | ok r =>
      dsimp only
      by_cases h0 : r.word.kind = 0
      · rw [if_pos h0, if_pos h0]
        dsimp only
        unfold endR
        rw [hl]
        dsimp only
        rw [if_pos h0]
      · rw [if_neg h0, if_neg h0]
        cases bindC s l 0 with
        | error e => rfl
        | ok q =>
          obtain ⟨v, t, k⟩ := q
          dsimp only
          unfold restB
          cases bsF s l (s.size + 1) k with
          | error e => rfl
          | ok q =>
            obtain ⟨L, k3⟩ := q
            dsimp only
            cases endR s k3 with
            | error e => rfl
            | ok _ => rfl
theorem bindC_err {s : ByteArray} {l : List Sym} {k : Nat} {e : Int × Nat} (hk : k ≤ s.size) (h : bindC s l k = .error e) : e.1 ≠ 0 := by
  unfold bindC at h
  cases h1 : wantP s k 2 with
  | error q => rw [h1] at h; cases h; exact want_err h1
  | ok r =>
    have e1 := want_ok hk h1
    rw [h1] at h
    dsimp only at h
    cases h2 : wantP s r.to 7 with
    | error q => rw [h2] at h; cases h; exact want_err h2
    | ok q =>
      have e2 := want_ok e1.2 h2
      rw [h2] at h
      dsimp only at h
      cases h3 : rdC s l false q.to with
      | error p => rw [h3] at h; cases h; exact rdC_err s.size false q.to _ e2.2 (Nat.sub_le _ _) h3
      | ok p =>
        obtain ⟨F, k3⟩ := p
        obtain ⟨x, m, rfl⟩ := rdC_node e2.2 h3
        rw [h3] at h
        cases h
/-- A word at any time. -/
theorem word_gen (B : Nat) (sg : Value) (s : ByteArray) (k p : Nat) (er : Int) (w : World) (hB : RfBox w B sg s k er p) (hs : s.size ≤ maxLen) (hk : er = 0 → k ≤ s.size) :
    Calls Try.prog 43 #[.pointer (some ⟨B, 0, none⟩)] w fun e w' => ∃ (wk : Int) (wt : ByteArray) (wp k' : Nat) (e2 : Int) (p2 : Nat), e = .returned (.agg #[.int .i64 wk, .string wt, .int .i64 wp]) ∧ RfBox w' B sg s k' e2 p2 ∧ FrB B w w' ∧ ((er ≠ 0 ∧ e2 = er ∧ p2 = p) ∨ (er = 0 ∧ match lookP s k with | .error q => e2 = q.1 ∧ p2 = q.2 ∧ e2 ≠ 0 | .ok r => e2 = 0 ∧ p2 = p ∧ wk = r.word.kind ∧ wp = r.word.place ∧ (wk ≠ 0 → k' = r.to))) := by
  by_cases he : er = 0
  · subst he
    refine (word_rf B sg s k p 0 w hB hs (hk rfl)).mono ?_
    rintro e w' ⟨rfl, h1, h2⟩
    unfold wordF at h1 ⊢
    rw [if_pos rfl] at h1 ⊢
    unfold lookP
    by_cases h0 : (nx s k).err = 0
    · rw [if_pos h0] at h1 ⊢
      rw [if_pos h0]
      refine ⟨_, _, _, _, _, _, rfl, h1, h2, .inr ⟨rfl, rfl, rfl, rfl, rfl, fun hk => ?_⟩⟩
      rw [if_neg hk]
    · rw [if_neg h0] at h1 ⊢
      rw [if_neg h0]
      exact ⟨_, _, _, _, _, _, rfl, h1, h2, .inr ⟨rfl, rfl, rfl, h0⟩⟩
  · refine (word_err B sg s k p er w hB he).mono ?_
    rintro e w' ⟨rfl, h1, h2⟩
    exact ⟨_, _, _, _, _, _, rfl, h1, h2, .inl ⟨he, rfl, rfl⟩⟩

/-- A variable, the sign and a term, as the document reads them. -/
theorem doc_bind {s : ByteArray} {l : List Sym} {k p k4 p4 k5 p5 k6 p6 : Nat} {e4 e5 e6 : Int} {vt ut : ByteArray} {x : ByteArray × Int} {xn : Nat} {Q : Fo → Prop}
    (h4 : match wantP s k 2 with | .error q => e4 = q.1 ∧ p4 = q.2 ∧ e4 ≠ 0 | .ok r => e4 = 0 ∧ p4 = p ∧ k4 = r.to ∧ vt = r.word.text ∧ k4 ≤ s.size)
    (h5 : (e4 ≠ 0 ∧ e5 = e4 ∧ p5 = p4) ∨ (e4 = 0 ∧ match wantP s k4 7 with | .error q => e5 = q.1 ∧ p5 = q.2 ∧ e5 ≠ 0 | .ok r => e5 = 0 ∧ p5 = p4 ∧ k5 = r.to ∧ ut = r.word.text ∧ k5 ≤ s.size))
    (h6 : (e5 ≠ 0 ∧ e6 = e5 ∧ p6 = p5) ∨ (e5 = 0 ∧ e6 ≠ 0 ∧ rdC s l false k5 = .error (e6, p6)) ∨ (e5 = 0 ∧ e6 = 0 ∧ p6 = p5 ∧ k6 ≤ s.size ∧ ∃ m, xn = lenF m ∧ Q m ∧ rdC s l false k5 = .ok (.node 0 0 x m .nil, k6))) :
    ∃ m, xn = lenF m ∧ ((e6 ≠ 0 ∧ bindC s l k = .error (e6, p6)) ∨ (e6 = 0 ∧ k6 ≤ s.size ∧ Q m ∧ bindC s l k = .ok (vt, (x, m), k6))) := by
  obtain ⟨m0, hm0⟩ := len_any xn
  unfold bindC
  · cases hw : wantP s k 2 with
    | error q =>
      rw [hw] at h4
      obtain ⟨rfl, rfl, hq⟩ := h4
      rcases h5 with ⟨_, rfl, rfl⟩ | ⟨h, _⟩
      · rcases h6 with ⟨_, rfl, rfl⟩ | ⟨h, _⟩ | ⟨h, _⟩
        · exact ⟨m0, hm0.symm, .inl ⟨hq, rfl⟩⟩
        · exact absurd h hq
        · exact absurd h hq
      · exact absurd h hq
    | ok r =>
      rw [hw] at h4
      obtain ⟨rfl, rfl, rfl, rfl, _⟩ := h4
      rcases h5 with ⟨h, _⟩ | ⟨_, h5⟩
      · exact absurd rfl h
      · cases hw2 : wantP s r.to 7 with
        | error q =>
          rw [hw2] at h5
          obtain ⟨rfl, rfl, hq⟩ := h5
          dsimp only
          rw [hw2]
          rcases h6 with ⟨_, rfl, rfl⟩ | ⟨h, _⟩ | ⟨h, _⟩
          · exact ⟨m0, hm0.symm, .inl ⟨hq, rfl⟩⟩
          · exact absurd h hq
          · exact absurd h hq
        | ok r2 =>
          rw [hw2] at h5
          obtain ⟨rfl, rfl, rfl, _, _⟩ := h5
          dsimp only
          rw [hw2]
          dsimp only
          rcases h6 with ⟨h, _⟩ | ⟨_, h, hr⟩ | ⟨_, rfl, rfl, hk, m, hx, hQ, hr⟩
          · exact absurd rfl h
          · rw [hr]; exact ⟨m0, hm0.symm, .inl ⟨h, rfl⟩⟩
          · rw [hr]; exact ⟨m, hx, .inr ⟨rfl, hk, hQ, rfl⟩⟩
theorem firstB_take {l : List Sym} : ∀ {L : List Bn} {i : Nat} {x : Bn}, L[i]? = some x → firstB l (L.take i) = 0 → chk l x.2.1 x.2.2 = 0 → firstB l (L.take (i + 1)) = 0
  | [], i, x, h, _, _ => by simp at h
  | y :: L, 0, x, h, _, hc => by
    have e : y = x := by simpa using h
    subst e
    simp [firstB, hc]
  | y :: L, i + 1, x, h, hz, hc => by
    have h' : L[i]? = some x := by simpa using h
    simp only [List.take_succ_cons, firstB] at hz ⊢
    split at hz
    · rename_i hy; rw [if_pos hy]; exact firstB_take h' hz hc
    · rename_i hy; exact absurd hz hy
theorem firstB_at {l : List Sym} : ∀ {L : List Bn} {i : Nat} {x : Bn}, L[i]? = some x → firstB l (L.take i) = 0 → chk l x.2.1 x.2.2 ≠ 0 → firstB l L = chk l x.2.1 x.2.2
  | [], i, x, h, _, _ => by simp at h
  | y :: L, 0, x, h, _, hc => by
    have e : y = x := by simpa using h
    subst e
    simp [firstB, hc]
  | y :: L, i + 1, x, h, hz, hc => by
    have h' : L[i]? = some x := by simpa using h
    simp only [List.take_succ_cons, firstB] at hz ⊢
    split at hz
    · rename_i hy; rw [if_pos hy]; exact firstB_at h' hz hc
    · rename_i hy; exact absurd hz hy
/-- Where the document's reading of binds stands. -/
def DocSt (s : ByteArray) (l : List Sym) (res : Except (Int × Nat) (List Bn)) (b : Nat) (fk : Int) (wr : World) (ov : Value) (bs : List Bk) (k : Nat) (er : Int) (p : Nat) : Prop :=
  (er ≠ 0 ∧ res = .error (er, p)) ∨ (er = 0 ∧ fk = 0 ∧ bs = [] ∧ res = .ok []) ∨ (er = 0 ∧ fk ≠ 0 ∧ s.size ≤ 800 ∧ k ≤ s.size ∧ bs.length ≤ k ∧ LstB b wr ov bs ∧ ∃ f, s.size - k < f ∧ (match bindC s l k with
    | .error e => res = .error e
    | .ok (v, t, k2) => match restB s l f k2 with
      | .error e => res = .error e
      | .ok L => res = .ok (bs.map bkBn ++ (v, t) :: L)))
theorem doc_start (s : ByteArray) (l : List Sym) (b : Nat) (W : World) : ∀ o, wordF s 0 (if 800 < s.size then 55 else 0) 0 = o → DocSt s l (preB s l) b o.1.kind W (.slice none 0 0) [] 0 o.2.2.1 o.2.2.2 := by
  rintro o rfl
  unfold wordF preB
  by_cases h8 : 800 < s.size
  · rw [if_pos h8, if_pos h8, if_neg (by decide)]
    exact .inl ⟨show (55 : Int) ≠ 0 by decide, rfl⟩
  · rw [if_neg h8, if_neg h8, if_pos rfl]
    unfold lookP
    by_cases h0 : (nx s 0).err = 0
    · rw [if_pos h0, if_pos h0]
      dsimp only
      by_cases hk : (nx s 0).word.kind = 0
      · rw [if_pos hk]
        exact .inr (.inl ⟨rfl, hk, rfl, rfl⟩)
      · rw [if_neg hk]
        refine .inr (.inr ⟨rfl, hk, by omega, Nat.zero_le _, Nat.le_refl _, LstB.nil _ _, s.size + 1, by omega, ?_⟩)
        cases bindC s l 0 with
        | error e => rfl
        | ok q =>
          obtain ⟨v, t, k⟩ := q
          dsimp only
          cases restB s l (s.size + 1) k with
          | error e => rfl
          | ok L => rfl
    · rw [if_neg h0, if_neg h0]
      exact .inl ⟨h0, rfl⟩

set_option maxRecDepth 100000 in
set_option maxHeartbeats 8000000 in
/-- The document's Binds of a text. -/
theorem rdocB_any (S : Option Addr) (n cap : Nat) (l : List Sym) (s : ByteArray) (w : World) (hS : SigAt w S n l) (hsm : s.size ≤ maxLen) :
    Calls Try.prog 16 #[.slice S n cap, .string s] w fun e w' => FullBEnd w (fullB s l) e w' := by
  have HS := hid hS
  clear hS
  obtain ⟨fin, hfin⟩ : ∃ fin, fullB s l = fin := ⟨_, rfl⟩
  rw [hfin]
  rw [fullB_pre] at hfin
  obtain ⟨o, ho⟩ : ∃ o, wordF s 0 (if 800 < s.size then 55 else 0) 0 = o := ⟨_, rfl⟩
  have hst := fun b W => doc_start s l b W o ho
  obtain ⟨res, hres⟩ : ∃ res, preB s l = res := ⟨_, rfl⟩
  rw [hres] at hst hfin
  have HST := hid hst; have HFIN := hid hfin
  clear hst hres hfin
  go_enter Try.func16, Try.ntmps16
  go_wp2_with fail
  refine (reader_rf S n cap s w).mono ?_
  rintro e w1 ⟨rfl, hr1, hb1⟩
  have hpk := peek_rf w.heap.size (.slice S n cap) s 0 0 _ w1 hr1 hsm (Nat.zero_le _)
  rw [ho] at hpk
  obtain ⟨⟨fk, ft, fp⟩, k0, e1, p1⟩ := o
  unfold Wd.val at hpk
  dsimp only at hpk HST
  have HPK := hid hpk; have L1 := hid hb1
  have hz1 := hr1.lt
  clear hpk hb1 hr1 ho
  go_wp2_with fail
  refine HPK.out.mono ?_
  rintro e w2 ⟨rfl, hr2, hf2⟩
  have hz2 := hf2.low.size
  have B2 := alloc_below0 w2 (.cells #[.int .i64 fk, .string ft, .int .i64 fp] 71)
  have T2 : Hid (WdBox (w2.alloc (.cells #[.int .i64 fk, .string ft, .int .i64 fp] 71)) w2.heap.size ⟨fk, ft, fp⟩) := World.alloc_heap_new w2 _
  have R2 := hid (hr2.below B2)
  have L2 : Hid (Below w.heap.size w (w2.alloc (.cells #[.int .i64 fk, .string ft, .int .i64 fp] 71))) := hid ((L1.out.trans (hf2.below (fun _ hk => hk ▸ Nat.le_refl _) (by omega))).trans (B2.mono (by omega)))
  have hv2 : (w2.alloc (.cells #[.int .i64 fk, .string ft, .int .i64 fp] 71)).heap.size = w2.heap.size + 1 := World.size_alloc _ _
  clear hr2 hf2 B2 HPK L1
  go_wp2_with fail
  generalize w2.alloc (.cells #[.int .i64 fk, .string ft, .int .i64 fp] 71) = V2 at T2 R2 L2 hv2 ⊢
  generalize hg9 : w2.heap.size = g9 at T2 hv2 ⊢
  have hgB : w.heap.size < g9 := by omega
  clear hg9 hz2 hz1
  go_loopw [8, 10, 11, 12] (fun ov _ _ _ wr => ∃ (k : Nat) (er : Int) (p : Nat) (bs : List Bk) (v : Value), v = ov ∧ RfBox wr w.heap.size (.slice S n cap) s k er p ∧ WdBox wr g9 ⟨fk, ft, fp⟩ ∧ wr.ownsRow (g9 + 1) 50 4 v bs.length (bkAll bs) ∧ bs.length ≤ s.size + 1 ∧ Below w.heap.size w wr ∧ g9 + 1 ≤ wr.heap.size ∧ DocSt s l res (g9 + 1) fk wr v bs k er p) (fun _ _ _ _ wr => match wr.cell? ⟨w.heap.size, 3, none⟩, wr.cell? ⟨w.heap.size, 2, none⟩ with | some (.int _ e), some (.int _ q) => if e = 0 then s.size + 1 - q.toNat else 0 | _, _ => 0)
  case atStart => exact ⟨0, e1, p1, [], _, rfl, R2.out, T2.out, World.ownsRow_nil _ _ _ _, Nat.zero_le _, L2.out, by omega, HST.out _ _⟩
  case round =>
    obtain ⟨k, er, p, bs, v, rfl, hrb, hwd, hrow, hbl, hlow, hsz, hdoc⟩ := hrel
    have R3 := hid hrb; have T3 := hid hwd; have O3 := hid hrow; have L3 := hid hlow
    have c3 := hrb.c3; have c4 := hrb.c4; have k0' := hwd.k0
    clear hrb hwd hrow hlow R2 T2 L2
    rcases hdoc with ⟨he, hre⟩ | ⟨rfl, hf0, rfl, hre⟩ | ⟨rfl, hfk, h8, hk, hbk, hls, f, hf, hre⟩
    · have hne : (er == 0) = false := by simpa using he
      have hnb : (er != 0) = true := by simpa using he
      obtain ⟨P, vc, hv⟩ : ∃ P vc, v = .slice P bs.length vc := by
        rcases O3.out.2 with ⟨h1, h2⟩ | ⟨g, cp, cur, h1, _⟩
        · exact ⟨none, 0, by rw [h1, h2]⟩
        · exact ⟨_, _, h1⟩
      subst hv
      have HRE := hid hre
      clear hre
      go_wp2_with fail
      go_loopw [13] (fun iv wr' => iv = .int .i64 ((0 : Nat) : Int) ∧ wr' = wr) (fun _ _ => 0)
      case atStart => exact ⟨rfl, rfl⟩
      case round =>
        obtain ⟨rfl, rfl⟩ := hrel
        by_cases hb0 : bs.length = 0
        · have hb1 : ((bs.length : Nat) : Int) = 0 := by omega
          go_wp2_with fail
          have hne2 := later_some wr
          have d3 := later_cell c3; have d4 := later_cell c4
          refine wp_region_later (by kernel_rfl) (by kernel_rfl) ?_
          repeat (go_big_quiet_step (fail))
          refine wpQuiet_nil ?_
          intro _ hw'
          obtain ⟨b3, hw''⟩ := hw'
          subst hw''
          clear d3 d4 hne2
          go_wp2
          go_ret3
          rw [← HFIN.out, HRE.out]
          exact ⟨rfl, L3.out.trans (b3.below.mono L3.out.size)⟩
        · have hb1 : (0 : Int) < ((bs.length : Nat) : Int) := by omega
          go_wp2_with fail
          have hne2 := later_some wr
          have d3 := later_cell c3; have d4 := later_cell c4
          refine wp_region_later (by kernel_rfl) (by kernel_rfl) ?_
          repeat (go_big_quiet_step (fail))
          refine wpQuiet_nil ?_
          intro _ hw'
          obtain ⟨b3, hw''⟩ := hw'
          subst hw''
          clear d3 d4 hne2
          go_wp2
          go_ret3
          rw [← HFIN.out, HRE.out]
          exact ⟨rfl, L3.out.trans (b3.below.mono L3.out.size)⟩
    · subst hf0
      have hv : v = .slice none 0 0 ∨ ∃ g vc, v = .slice (some ⟨g, 0, none⟩) 0 vc := by
        rcases O3.out.2 with ⟨h1, h2⟩ | ⟨g, cp, cur, h1, _⟩
        · exact .inl h1
        · exact .inr ⟨_, _, h1⟩
      have HRE := hid hre
      clear hre
      have hrow := fun (P : Option Addr) (vc : Nat) => (⟨rfl, by simp, fun i hi => absurd hi (by simp)⟩ : BRow wr P 0 [])
      rcases hv with rfl | ⟨g, vc, rfl⟩
      · go_wp2_with fail
        go_loopw [13] (fun iv wr' => iv = .int .i64 ((0 : Nat) : Int) ∧ wr' = wr) (fun _ _ => 0)
        case atStart => exact ⟨rfl, rfl⟩
        case round =>
          obtain ⟨rfl, rfl⟩ := hrel
          go_wp2
          go_ret3
          rw [← HFIN.out, HRE.out]
          exact ⟨⟨none, 0, rfl, hrow none 0⟩, L3.out⟩
      · go_wp2_with fail
        go_loopw [13] (fun iv wr' => iv = .int .i64 ((0 : Nat) : Int) ∧ wr' = wr) (fun _ _ => 0)
        case atStart => exact ⟨rfl, rfl⟩
        case round =>
          obtain ⟨rfl, rfl⟩ := hrel
          go_wp2
          go_ret3
          rw [← HFIN.out, HRE.out]
          exact ⟨⟨_, _, rfl, hrow _ vc⟩, L3.out⟩
    · have hkb : (fk != 0) = true := by simpa using hfk
      have HLS := hid hls; have HRE := hid hre
      have hk' := hk
      clear hls hre
      go_wp2_with fail
      have hw1 := want_rf w.heap.size (.slice S n cap) s k p 2 0 wr R3.out hsm (fun _ => hk)
      refine hw1.mono ?_
      rintro e w4 ⟨vk, vt, vp, k4, e4, p4, rfl, hr4, hf4, hd4⟩
      have hz4 := hf4.low.size
      have B4 := alloc_below0 w4 (.cells #[.int .i64 vk, .string vt, .int .i64 vp] 71)
      have W4 : WdBox (w4.alloc (.cells #[.int .i64 vk, .string vt, .int .i64 vp] 71)) w4.heap.size ⟨vk, vt, vp⟩ := World.alloc_heap_new w4 _
      have F4 : FrB w.heap.size wr (w4.alloc (.cells #[.int .i64 vk, .string vt, .int .i64 vp] 71)) := hf4.trans (Fr.of_below B4)
      have hv4 : (w4.alloc (.cells #[.int .i64 vk, .string vt, .int .i64 vp] 71)).heap.size = w4.heap.size + 1 := World.size_alloc _ _
      have hd4' : match wantP s k 2 with | .error q => e4 = q.1 ∧ p4 = q.2 ∧ e4 ≠ 0 | .ok r => e4 = 0 ∧ p4 = p ∧ k4 = r.to ∧ vt = r.word.text ∧ k4 ≤ s.size := by
        rcases hd4 with ⟨h0, _⟩ | ⟨_, h1⟩
        · exact absurd rfl h0
        · exact h1
      have hk4 : e4 = 0 → k4 ≤ s.size := fun h => by
        cases hw : wantP s k 2 with
        | error q => rw [hw] at hd4'; exact absurd h hd4'.2.2
        | ok r => rw [hw] at hd4'; exact hd4'.2.2.2.2
      have hw2 := want_rf w.heap.size (.slice S n cap) s k4 p4 7 e4 _ (hr4.below B4) hsm hk4
      have HW2 := hid hw2; have HW4 := hid W4; have HF4 := hid F4; have HD4 := hid hd4'
      clear hw1 hr4 hf4 hd4 hd4' B4 W4 F4 hw2 hk4
      go_wp2_with fail
      generalize w4.alloc (.cells #[.int .i64 vk, .string vt, .int .i64 vp] 71) = V4 at HW2 HW4 HF4 hv4 ⊢
      refine HW2.out.mono ?_
      rintro e w5 ⟨uk, ut, up, k5, e5, p5, rfl, hr5, hf5, hd5⟩
      have hz5 := hf5.low.size
      have F5 : FrB w.heap.size wr w5 := HF4.out.trans hf5
      have hk5 : e5 = 0 → k5 ≤ s.size ∧ s.size ≤ 800 := fun h => by
        refine ⟨?_, h8⟩
        rcases hd5 with ⟨h0, h1, _⟩ | ⟨_, h1⟩
        · exact absurd (h1.symm.trans h) h0
        · cases hw : wantP s k4 7 with
          | error q => rw [hw] at h1; exact absurd h h1.2.2
          | ok r => rw [hw] at h1; exact h1.2.2.2.2
      have hlw5 : Below w.heap.size w w5 := L3.out.trans (F5.below (fun _ hk => hk ▸ Nat.le_refl _) (by omega))
      have hw3 := rterm_gen (cap := cap) (Nat.le_refl _) HS.out k5 p5 e5 w5 hr5 hlw5 hk5
      have HW3 := hid hw3; have HF5 := hid F5; have HD5 := hid hd5
      have HW5 := hid ((hf5.same _ (by omega) (by omega)).trans HW4.out)
      clear hr5 hf5 hd5 F5 hk5 hlw5 hw3 HW2 HW4 HF4
      go_wp2_with fail
      refine HW3.out.mono ?_
      rintro e w6 ⟨x, xa, xn, xc, k6, e6, p6, rfl, hr6, hf6, hd6⟩
      obtain ⟨mm, rfl, hrel6⟩ := doc_bind HD4.out HD5.out hd6
      have hz6 := hf6.low.size
      have F6 : FrB w.heap.size wr w6 := HF5.out.trans hf6
      have B6 := alloc_below0 w6 (.cells #[.string x.1, .int .i64 x.2, .slice xa (lenF mm) xc] 28)
      have X6 : XBox (w6.alloc (.cells #[.string x.1, .int .i64 x.2, .slice xa (lenF mm) xc] 28)) w6.heap.size x (.slice xa (lenF mm) xc) := World.alloc_heap_new w6 _
      have W6 : WdBox (w6.alloc (.cells #[.string x.1, .int .i64 x.2, .slice xa (lenF mm) xc] 28)) w4.heap.size ⟨vk, vt, vp⟩ := (B6.block _ (by omega)).trans ((hf6.same _ (by omega) (by omega)).trans HW5.out)
      have R6 := hid (hr6.below B6)
      have hv6 : (w6.alloc (.cells #[.string x.1, .int .i64 x.2, .slice xa (lenF mm) xc] 28)).heap.size = w6.heap.size + 1 := World.size_alloc _ _
      have FV6 : FrB w.heap.size wr (w6.alloc (.cells #[.string x.1, .int .i64 x.2, .slice xa (lenF mm) xc] 28)) := F6.trans (Fr.of_below B6)
      have O6 := hid (row_fr O3.out FV6 (by omega))
      have LS6 := hid (HLS.out.fr FV6 (by omega))
      have HF6 := hid FV6
      have HREL6 : Hid ((e6 ≠ 0 ∧ bindC s l k = .error (e6, p6)) ∨ (e6 = 0 ∧ k6 ≤ s.size ∧ OwnTm false (fun q => g9 + 1 ≤ q ∧ some q ≠ v.ownBlock) (w6.alloc (.cells #[.string x.1, .int .i64 x.2, .slice xa (lenF mm) xc] 28)) x xa xc mm ∧ bindC s l k = .ok (vt, (x, mm), k6))) := hid (hrel6.imp id (fun ⟨h1, h2, h3, h4⟩ => ⟨h1, h2, (h3.mono (fun q _ hq => ⟨by omega, fun e => by have := (owns_ne O3.out e.symm).2; omega⟩)).below B6, h4⟩))
      have d0 := X6.c0; have d1 := X6.c1; have d2 := X6.c2; have d3 := W6.k1
      have hz4' : wr.heap.size ≤ w4.heap.size := hz4
      clear hrel6 hd6 hr6 hf6 F6 B6 X6 W6 FV6 HD4 HD5 HW3 HF5 HW5 c3 c4 k0'
      have hnews : ∀ j u, (bkCells (vt, ⟨x, mm, xa, xc⟩))[j]? = some u → ((w6.alloc (.cells #[.string x.1, .int .i64 x.2, .slice xa (lenF mm) xc] 28)).alloc (.cells #[.string vt, .string x.1, .int .i64 x.2, .slice xa (lenF mm) xc] 50)).cell? ((⟨w6.heap.size + 1, 0, none⟩ : Addr).add j) = some u := by
        have h := World.news_of_block (heap_alloc_new (w6.alloc (.cells #[.string x.1, .int .i64 x.2, .slice xa (lenF mm) xc] 28)) (.cells #[.string vt, .string x.1, .int .i64 x.2, .slice xa (lenF mm) xc] 50))
        rw [World.size_alloc] at h
        exact h
      have HNW := hid hnews
      have hbig : Hid (bs.length ≤ 800) := hid (by omega)
      have hbas : Hid (g9 + 1 ≤ ((w6.alloc (.cells #[.string x.1, .int .i64 x.2, .slice xa (lenF mm) xc] 28)).alloc (.cells #[.string vt, .string x.1, .int .i64 x.2, .slice xa (lenF mm) xc] 50)).heap.size) := hid (by rw [World.size_alloc]; omega)
      clear hnews
      go_wp2_with (first
        | (at_builtin; refine wpList_append_bk rfl _ _ rfl (g9 + 1) v bs rfl (owns_below O6.out (alloc_below0 _ _)) (w6.heap.size + 1) (vt, ⟨x, mm, xa, xc⟩) rfl HNW.out hbig.out hbas.out ?_; intro v7 w7 hown7 hgrow7 hat7; have O7 := hid hown7; have G7 := hid hgrow7; have A7 := hid hat7; clear hown7 hat7 hgrow7)
        | fail)
      clear d0 d1 d2 d3 HNW hbas
      have B7 := alloc_below0 (w6.alloc (.cells #[.string x.1, .int .i64 x.2, .slice xa (lenF mm) xc] 28)) (.cells #[.string vt, .string x.1, .int .i64 x.2, .slice xa (lenF mm) xc] 50)
      have hv7 : ((w6.alloc (.cells #[.string x.1, .int .i64 x.2, .slice xa (lenF mm) xc] 28)).alloc (.cells #[.string vt, .string x.1, .int .i64 x.2, .slice xa (lenF mm) xc] 50)).heap.size = w6.heap.size + 1 + 1 := by rw [World.size_alloc, World.size_alloc]
      have hg7 := G7.out.size
      have hnB : ∀ q, q ≤ g9 → some q ≠ v.ownBlock := fun q hq e => by have := (owns_ne O6.out e.symm).1; omega
      have R7 : RfBox w7 w.heap.size (.slice S n cap) s k6 e6 p6 := (G7.out.block _ (by omega) (hnB _ (by omega))).trans (R6.out.below B7)
      have T7 : WdBox w7 g9 ⟨fk, ft, fp⟩ := (G7.out.block _ (by omega) (hnB _ (Nat.le_refl _))).trans ((B7.block _ (by omega)).trans ((HF6.out.same _ (by omega) (by omega)).trans T3.out))
      have L7 : Below w.heap.size w w7 := ((L3.out.trans (HF6.out.below (fun _ hk => hk ▸ Nat.le_refl _) (by omega))).trans (B7.mono (by omega))).grown G7.out (by omega) (fun q hq => by have := (owns_ne O6.out hq).1; omega)
      have LS7 : Hid (OwnTm false (fun q => g9 + 1 ≤ q ∧ some q ≠ v.ownBlock) (w6.alloc (.cells #[.string x.1, .int .i64 x.2, .slice xa (lenF mm) xc] 28)) x xa xc mm → LstB (g9 + 1) w7 v7 (bs ++ [(vt, ⟨x, mm, xa, xc⟩)])) := hid fun h => LstB.push (LS6.out.fr (Fr.of_below B7) (Nat.lt_succ_of_lt hgB)) (h.below B7) G7.out A7.out O7.out
      have hk6 : e6 = 0 → k6 ≤ s.size := fun h => by
        rcases HREL6.out with ⟨h1, _⟩ | ⟨_, h1, _⟩
        · exact absurd h h1
        · exact h1
      have hwd := word_gen w.heap.size (.slice S n cap) s k6 p6 e6 w7 R7 hsm hk6
      have HL7 := hid L7; have HT7 := hid T7
      have hsz7 : g9 + 1 ≤ w7.heap.size := by omega
      clear B7 R7 T7 L7 hk6 hnB
      refine hwd.mono ?_
      rintro e w8 ⟨nk, nt, np, k8, e8, p8, rfl, hr8, hf8, hd8⟩
      have hz8 := hf8.low.size
      have B8 := alloc_below0 w8 (.cells #[.int .i64 nk, .string nt, .int .i64 np] 71)
      have hv8 : (w8.alloc (.cells #[.int .i64 nk, .string nt, .int .i64 np] 71)).heap.size = w8.heap.size + 1 := World.size_alloc _ _
      have W8 : WdBox (w8.alloc (.cells #[.int .i64 nk, .string nt, .int .i64 np] 71)) w8.heap.size ⟨nk, nt, np⟩ := World.alloc_heap_new w8 _
      have R8 := hr8.below B8
      have F8 : FrB w.heap.size w7 (w8.alloc (.cells #[.int .i64 nk, .string nt, .int .i64 np] 71)) := hf8.trans (Fr.of_below B8)
      have T8 : WdBox (w8.alloc (.cells #[.int .i64 nk, .string nt, .int .i64 np] 71)) g9 ⟨fk, ft, fp⟩ := (F8.same _ (by omega) (by omega)).trans HT7.out
      have O8 := hid (row_fr O7.out F8 (by omega))
      have L8 : Below w.heap.size w (w8.alloc (.cells #[.int .i64 nk, .string nt, .int .i64 np] 71)) := HL7.out.trans (F8.below (fun _ hk => hk ▸ Nat.le_refl _) (by omega))
      have HF8 := hid F8; have HR8 := hid R8; have HT8 := hid T8; have HL8 := hid L8; have HD8 := hid hd8; have HW8 := hid W8
      have s0 := W8.k0; have s2 := W8.k2; have t3 := R8.c3
      clear hwd hr8 hf8 hd8 B8 W8 R8 F8 T8 L8 O7 HT7
      obtain ⟨f, rfl⟩ : ∃ g, f = g + 1 := ⟨f - 1, by omega⟩
      have hre := HRE.out
      by_cases he8 : e8 = 0
      · subst he8
        have hd8' : e6 = 0 ∧ ∃ r, lookP s k6 = .ok r ∧ nk = r.word.kind ∧ np = r.word.place ∧ (nk ≠ 0 → k8 = r.to) := by
          rcases HD8.out with ⟨h1, h2, _⟩ | ⟨h1, h2⟩
          · exact absurd h2.symm h1
          · refine ⟨h1, ?_⟩
            cases hl : lookP s k6 with
            | error q => rw [hl] at h2; exact absurd rfl h2.2.2
            | ok r => rw [hl] at h2; exact ⟨r, rfl, h2.2.2.1, h2.2.2.2.1, h2.2.2.2.2⟩
        obtain ⟨h60, r, hlk, hnk, hnp, hnto⟩ := hd8'
        obtain ⟨hk6, hown, hb⟩ : k6 ≤ s.size ∧ OwnTm false (fun q => g9 + 1 ≤ q ∧ some q ≠ v.ownBlock) (w6.alloc (.cells #[.string x.1, .int .i64 x.2, .slice xa (lenF mm) xc] 28)) x xa xc mm ∧ bindC s l k = .ok (vt, (x, mm), k6) := by
          rcases HREL6.out with ⟨h1, _⟩ | ⟨_, h1⟩
          · exact absurd h60 h1
          · exact h1
        have hkk := bindC_to hk hb
        have LS8 := hid ((LS7.out hown).fr HF8.out (Nat.lt_succ_of_lt hgB))
        rw [hb] at hre
        dsimp only at hre
        rw [restB_succ, hlk] at hre
        dsimp only at hre
        rw [← hnk, ← hnp] at hre
        have HRE8 := hid hre
        clear hre hown HREL6 HRE LS7 HD8
        by_cases hn0 : nk = 0
        · subst hn0
          have hre := HRE8.out
          rw [if_pos rfl] at hre
          dsimp only at hre
          have HRES : Hid (res = .ok ((bs ++ [((vt, ⟨x, mm, xa, xc⟩) : Bk)]).map bkBn)) := by
            show res = _
            rw [List.map_append]
            exact hre
          clear hre HRE8 hnk hnp hnto hlk h60
          go_wp2_with fail
          have LW8 := HL8.out.size
          generalize (w8.alloc (.cells #[.int .i64 0, .string nt, .int .i64 np] 71)) = V8 at HF8 HR8 HT8 HL8 HW8 O8 LS8 s0 s2 t3 hv8 LW8 ⊢
          generalize hbs : bs ++ [((vt, ⟨x, mm, xa, xc⟩) : Bk)] = bs7 at O8 LS8 HRES
          obtain ⟨L, hL⟩ : ∃ L, bs7.map bkBn = L := ⟨_, rfl⟩
          rw [hL] at HRES
          have HLL := hid hL
          have hll : bs7.length = L.length := by rw [← hL, List.length_map]
          obtain ⟨P, vc, hv, _⟩ := bRow_of LS8.out.row (fun k hk => by
            obtain ⟨y, hy, rfl⟩ := List.mem_map.1 hk
            exact (LS8.out.own y hy).tm)
          rw [hll] at hv
          have hsmL : L.length ≤ 900 := by rw [← hll, ← hbs]; simp; have := hbig.out; omega
          clear hL hll hbs
          subst hv
          go_loopw [13] (fun iv wr2 => ∃ (i : Nat) (er : Int) (p2 : Nat), iv = .int .i64 i ∧ i ≤ L.length ∧ RfBox wr2 w.heap.size (.slice S n cap) s k8 er p2 ∧ LstB (g9 + 1) wr2 (.slice P L.length vc) bs7 ∧ Below w.heap.size w wr2 ∧ ((er = 0 ∧ firstB l (L.take i) = 0) ∨ (er ≠ 0 ∧ firstB l L = er ∧ p2 = 0))) (fun iv _ => L.length - (intOf iv).toNat)
          case atStart => exact ⟨0, 0, p8, rfl, Nat.zero_le _, HR8.out, LS8.out, HL8.out, .inl ⟨rfl, rfl⟩⟩
          case round =>
            obtain ⟨i, er, p2, rfl, hi, hrb2, hls2, hlw2, hcase⟩ := hrel
            have HR2 := hid hrb2; have HLS2 := hid hls2; have HL2 := hid hlw2
            have c3 := hrb2.c3; have c4 := hrb2.c4
            clear hrb2 hls2 hlw2 s0 s2 t3 HR8 LS8 O8 HT8 HW8 HF8
            rcases hcase with ⟨rfl, hz⟩ | ⟨hne0, hfb, rfl⟩
            · by_cases hlt : i < L.length
              · have HLS3 := HLS2
                obtain ⟨P', vc', hv', hB⟩ := bRow_of HLS2.out.row (fun k hk => by
                  obtain ⟨y, hy, rfl⟩ := List.mem_map.1 hk
                  exact (HLS2.out.own y hy).tm)
                rw [HLL.out] at hB
                obtain ⟨b5, o5, ra, rc, hp5, bd⟩ := hB.cells i hlt
                obtain ⟨z, hzz⟩ : ∃ z, L[i] = z := ⟨_, rfl⟩
                have hget : L[i]? = some z := by rw [List.getElem?_eq_getElem hlt, hzz]
                rw [hzz] at bd
                have hPP : P = some ⟨b5, o5, none⟩ := by
                  have h1 := hv'
                  rw [hp5] at h1
                  exact (Value.slice.inj h1).1
                subst hPP
                have q1 := bd.name; have q2 := bd.sym; have q3 := bd.list
                have hck := checks_rf w.heap.size S n cap l s k8 p2 z.2.1 z.2.2 ra rc wr HR2.out (HS.out.below HL2.out) bd.tm
                obtain ⟨ce, hce⟩ : ∃ ce, chk l z.2.1 z.2.2 = ce := ⟨_, rfl⟩
                rw [hce] at hck
                have HCK := hid hck; have HCE := hid hce; have HZ := hid hz; have HGET := hid hget
                clear hck hce hz hget bd hzz hB hv' hp5
                go_wp2_with fail
                refine HCK.out.mono ?_
                rintro e w9 ⟨rfl, hr9, hf9⟩
                have R9 := hid hr9
                have LS9 := hid (HLS3.out.fr hf9 (Nat.lt_succ_of_lt hgB))
                have L9 := hid (HL2.out.trans (hf9.below (fun _ hk => hk ▸ Nat.le_refl _) (HL2.out.size)))
                clear hr9 hf9
                go_wp2
                go_roundw
                case rel =>
                  refine ⟨i + 1, ce, _, by go_num, by omega, R9.out, LS9.out, L9.out, ?_⟩
                  by_cases h0 : ce = 0
                  · exact .inl ⟨h0, firstB_take HGET.out HZ.out (HCE.out.trans h0)⟩
                  · exact .inr ⟨h0, (firstB_at HGET.out HZ.out (by rw [HCE.out]; exact h0)).trans HCE.out, if_neg h0⟩
                case measure => simp [intOf]; omega
              · have hil : i = L.length := by omega
                subst hil
                have hfb : firstB l L = 0 := by rw [List.take_length] at hz; exact hz
                have HFB := hid hfb
                obtain ⟨P', vc', hv', hB⟩ := bRow_of HLS2.out.row (fun k hk => by
                  obtain ⟨y, hy, rfl⟩ := List.mem_map.1 hk
                  exact (HLS2.out.own y hy).tm)
                rw [HLL.out] at hB
                have hlen : bs7.length = L.length := by rw [← HLL.out, List.length_map]
                rw [hlen] at hB hv'
                have HB := hid hB; have HV := hid hv'
                clear hz hfb hB hv' hlen
                go_wp2
                go_ret3
                have hfin := HFIN.out
                rw [HRES.out] at hfin
                dsimp only at hfin
                rw [if_pos HFB.out] at hfin
                rw [← hfin]
                exact ⟨⟨P', vc', by rw [HV.out]; rfl, HB.out⟩, HL2.out⟩
            · have hneb : (er == 0) = false := by simpa using hne0
              have hnb : (er != 0) = true := by simpa using hne0
              have HFB := hid hfb
              clear hfb
              by_cases hlt : i < L.length
              · have hlt' : (i : Int) < (L.length : Int) := by omega
                go_wp2_with fail
                have hne2 := later_some wr
                have d3 := later_cell c3; have d4 := later_cell c4
                refine wp_region_later (by kernel_rfl) (by kernel_rfl) ?_
                repeat (go_big_quiet_step (fail))
                refine wpQuiet_nil ?_
                intro _ hw'
                obtain ⟨b3, hw''⟩ := hw'
                subst hw''
                clear d3 d4 hne2
                go_wp2
                go_ret3
                have hfin := HFIN.out
                rw [HRES.out] at hfin
                dsimp only at hfin
                rw [HFB.out, if_neg hne0] at hfin
                rw [← hfin]
                exact ⟨rfl, HL2.out.trans (b3.below.mono HL2.out.size)⟩
              · have hlt' : ¬ (i : Int) < (L.length : Int) := by omega
                go_wp2_with fail
                have hne2 := later_some wr
                have d3 := later_cell c3; have d4 := later_cell c4
                refine wp_region_later (by kernel_rfl) (by kernel_rfl) ?_
                repeat (go_big_quiet_step (fail))
                refine wpQuiet_nil ?_
                intro _ hw'
                obtain ⟨b3, hw''⟩ := hw'
                subst hw''
                clear d3 d4 hne2
                go_wp2
                go_ret3
                have hfin := HFIN.out
                rw [HRES.out] at hfin
                dsimp only at hfin
                rw [HFB.out, if_neg hne0] at hfin
                rw [← hfin]
                exact ⟨rfl, HL2.out.trans (b3.below.mono HL2.out.size)⟩
        · by_cases hn5 : nk = 5
          · subst hn5
            have hre := HRE8.out
            rw [if_neg (by decide), if_pos rfl] at hre
            have hto : k6 < r.to ∧ r.to ≤ s.size := by
              have h := nx_to (s := s) (k := k6) hk6
              rw [look_ok hlk, ← hnk] at h
              exact h (by decide)
            have hk8 := hnto (by decide)
            subst hk8
            have HRES : Hid (match bindC s l r.to with
                | .error e => res = .error e
                | .ok (v, t, k2) => match restB s l f k2 with
                  | .error e => res = .error e
                  | .ok L => res = .ok ((bs ++ [((vt, ⟨x, mm, xa, xc⟩) : Bk)]).map bkBn ++ (v, t) :: L)) := by
              show match bindC s l r.to with
                | .error e => res = .error e
                | .ok (v, t, k2) => match restB s l f k2 with
                  | .error e => res = .error e
                  | .ok L => res = .ok ((bs ++ [((vt, ⟨x, mm, xa, xc⟩) : Bk)]).map bkBn ++ (v, t) :: L)
              cases hb2 : bindC s l r.to with
              | error e => rw [hb2] at hre; exact hre
              | ok q =>
                obtain ⟨v2, t2, k2⟩ := q
                rw [hb2] at hre
                dsimp only at hre ⊢
                cases hr2 : restB s l f k2 with
                | error e => rw [hr2] at hre; exact hre
                | ok L2 =>
                  rw [hr2] at hre
                  dsimp only at hre ⊢
                  rw [hre, List.map_append, List.append_assoc]
                  rfl
            clear hre HRE8 hnto hnk hnp hlk h60
            go_wp2
            go_roundw
            case rel =>
              exact ⟨r.to, 0, p8, bs ++ [(vt, ⟨x, mm, xa, xc⟩)], v7, rfl, HR8.out, HT8.out, O8.out, by simp; omega, HL8.out, by omega, .inr (.inr ⟨rfl, hfk, h8, hto.2, by simp; omega, LS8.out, f, by omega, HRES.out⟩)⟩
            case measure =>
              rw [HR8.out.c3, HR8.out.c2, R3.out.c3, R3.out.c2]
              simp
              omega
          · have hre := HRE8.out
            rw [if_neg hn0, if_neg hn5] at hre
            dsimp only at hre
            have HRES := hid hre
            have hnb0 : (nk == 0) = false := by simpa using hn0
            have hnb5 : (nk != 5) = true := by simpa using hn5
            clear hre HRE8 hnto hnk hnp hlk h60
            go_wp2_with fail
            refine (fails_rf w.heap.size (.slice S n cap) s k8 p8 0 54 np _ HR8.out).mono ?_
            rintro e w9 ⟨rfl, hr9, hf9⟩
            rw [if_pos rfl, if_pos rfl] at hr9
            have hz9 := hf9.low.size
            have T9 := hid ((hf9.same _ (by omega) (by omega)).trans HT8.out)
            have O9 := hid (row_fr O8.out hf9 (by omega))
            have L9 := hid (HL8.out.trans (hf9.below (fun _ hk => hk ▸ Nat.le_refl _) (by omega)))
            have R9 := hid hr9
            clear hr9 hf9
            go_wp2
            go_roundw
            case rel =>
              exact ⟨k8, 54, np, bs ++ [(vt, ⟨x, mm, xa, xc⟩)], v7, rfl, R9.out, T9.out, O9.out, by simp; omega, L9.out, by omega, .inl ⟨by decide, HRES.out⟩⟩
            case measure =>
              rw [R9.out.c3, R9.out.c2, R3.out.c3, R3.out.c2]
              simp
              omega
      · have hne8 : (e8 == 0) = false := by simpa using he8
        have HRES : Hid (res = .error (e8, p8)) := by
          show res = .error (e8, p8)
          rcases HREL6.out with ⟨h6, hb⟩ | ⟨h6, hk6, _, hb⟩
          · rw [hb] at hre
            rcases HD8.out with ⟨_, h1, h2⟩ | ⟨h1, _⟩
            · rw [h1, h2]; exact hre
            · exact absurd h1 h6
          · rw [hb] at hre
            dsimp only at hre
            rw [restB_succ] at hre
            rcases HD8.out with ⟨h1, _⟩ | ⟨_, h1⟩
            · exact absurd h6 h1
            · cases hl : lookP s k6 with
              | error q =>
                rw [hl] at hre h1
                dsimp only at hre
                obtain ⟨h2, h3, _⟩ := h1
                rw [h2, h3]; exact hre
              | ok r => rw [hl] at h1; exact absurd h1.1 he8
        clear hre
        go_wp2
        go_roundw
        case rel =>
          exact ⟨k8, e8, p8, bs ++ [(vt, ⟨x, mm, xa, xc⟩)], v7, rfl, HR8.out, HT8.out, O8.out, by simp; omega, HL8.out, by omega, .inl ⟨he8, HRES.out⟩⟩
        case measure =>
          rw [HR8.out.c3, HR8.out.c2, R3.out.c3, R3.out.c2]
          simp [he8]
          omega
end Go.Proofs.Ytkcbhbkldcebiaa

namespace Go.Proofs.Ytkcbhbkldcebiaa
open Go.RowKit Go.Deep

theorem exF_self : ∀ F : Fo, exF F F = true
  | .nil => rfl
  | .node _ _ x m r => by
    simp only [exF]
    rw [exF_self m, exF_self r]
    simp
theorem exN_self (x : ByteArray × Int) (m : Fo) : exN x x m m = true := by
  unfold exN
  rw [exF_self]
  simp
/-- An answer as three values. -/
def resB : Except (Int × Nat) (List Bn) → List Bn × Int × Nat
  | .error q => ([], q.1, q.2)
  | .ok L => (L, 0, 0)
def TupB (w : World) (L : List Bn) (er : Int) (p : Nat) (e : Ending) (w' : World) : Prop := ∃ P c, e = .returned (.tuple #[.slice P L.length c, .int .i64 er, .int .i64 p]) ∧ BRow w' P L.length L ∧ Below w.heap.size w w'
theorem tupB_of {w w' : World} {res : Except (Int × Nat) (List Bn)} {e : Ending} (h : FullBEnd w res e w') {L : List Bn} {er : Int} {p : Nat} (hr : resB res = (L, er, p)) : TupB w L er p e w' := by
  cases res with
  | error q =>
    cases hr
    obtain ⟨rfl, hb⟩ := h
    exact ⟨none, 0, rfl, ⟨rfl, by simp, fun i hi => absurd hi (by simp)⟩, hb⟩
  | ok t =>
    cases hr
    obtain ⟨⟨P, c, rfl, ho⟩, hb⟩ := h
    exact ⟨P, c, rfl, ho, hb⟩
theorem StrsAt.belowB {w w' : World} {a : Option Addr} {n : Nat} {ss : List ByteArray} (h : StrsAt w a n ss) (hb : Below w.heap.size w w') : StrsAt w' a n ss :=
  ⟨h.len, h.small, fun i hi => let ⟨b, off, h1, h2⟩ := h.cells i hi; ⟨b, off, h1, below_cell hb _ _ h2⟩, h.fits⟩

set_option maxRecDepth 100000 in
set_option maxHeartbeats 4000000 in
theorem textBinds_walk (S : Option Addr) (n cap : Nat) (l : List Sym) (a : Option Addr) (len c : Nat) (ss : List ByteArray) (w : World) (hS : SigAt w S n l) (hA : StrsAt w a len ss) :
    Calls Try.prog 5 #[.slice S n cap, .slice a len c] w fun e w' => e = .returned (.bool true) ∧ Below w.heap.size w w' := by
  have HS := hid hS; have HA := hid hA
  have hlm := hA.small
  unfold maxLen at hlm
  clear hS hA
  go_enter Try.func5, Try.ntmps5
  go_wp2_with fail
  refine (head_any w).mono ?_
  rintro e w1 ⟨rfl, hb1⟩
  have L1 := hid hb1
  clear hb1
  go_wp2_with fail
  go_loopw [6] (fun ov wr => ∃ i : Nat, ov = .int .i64 i ∧ i ≤ len ∧ Below w.heap.size w wr) (fun ov _ => len - (intOf ov).toNat)
  case atStart => exact ⟨0, rfl, Nat.zero_le _, L1.out⟩
  case round =>
    obtain ⟨i, rfl, hi, hb⟩ := hrel
    have HB := hid hb
    clear hb
    by_cases hlt : i < len
    · have hil : i < ss.length := by have := HA.out.len; omega
      obtain ⟨bb, off, rfl, hcell⟩ := HA.out.cells i hil
      have hfit : ss[i].size ≤ maxLen := HA.out.fits _ (List.getElem_mem hil)
      obtain ⟨s, hs⟩ : ∃ s, ss[i] = s := ⟨_, rfl⟩
      rw [hs] at hcell hfit
      obtain ⟨L, er, p, hv⟩ : ∃ (L : List Bn) (er : Int) (p : Nat), resB (fullB s l) = (L, er, p) := ⟨_, _, _, rfl⟩
      have HT : Hid (∀ W, Below w.heap.size w W → Calls Try.prog 15 #[.slice S n cap, .string s] W fun e w' => TupB W L er p e w') := hid fun W hW => (binds_any S n cap l s W (HS.out.below hW)).mono (fun _ _ h => tupB_of h hv)
      have HD : Hid (∀ W, Below w.heap.size w W → Calls Try.prog 16 #[.slice S n cap, .string s] W fun e w' => TupB W L er p e w') := hid fun W hW => (rdocB_any S n cap l s W (HS.out.below hW) hfit).mono (fun _ _ h => tupB_of h hv)
      clear hv hs hfit
      have q0 := below_cell HB.out _ _ hcell
      go_wp2_with fail
      refine (HT.out wr HB.out).mono ?_
      rintro e w2 ⟨P, pc, rfl, hr2, hb2⟩
      have L2 := hid (HB.out.trans (hb2.mono HB.out.size))
      have R2 := hid hr2
      have q2 := below_cell L2.out _ _ hcell
      clear hr2 hb2 q0
      go_wp2_with fail
      refine (HD.out w2 L2.out).mono ?_
      rintro e w3 ⟨Q, qc, rfl, hr3, hb3⟩
      have L3 := hid (L2.out.trans (hb3.mono L2.out.size))
      have hsm := same_true P Q pc qc L L w3 (R2.out.below hb3) hr3 (fun i hi hj => ⟨rfl, exN_self _ _⟩)
      have HSM := hid hsm
      clear hr3 hb3 q2 hsm R2
      go_wp2_with fail
      refine HSM.out.mono ?_
      rintro e w4 ⟨rfl, hb4⟩
      have L4 := hid (L3.out.trans (hb4.mono L3.out.size))
      clear hb4 HSM
      go_wp2
      go_roundw
      case rel => exact ⟨i + 1, by go_num, by omega, L4.out⟩
      case measure => simp [intOf]; omega
    · have hil : i = len := by omega
      subst hil
      go_wp2
      go_ret
      exact ⟨rfl, HB.out⟩
end Go.Proofs.Ytkcbhbkldcebiaa

namespace Go.Proofs.Ytkcbhbkldcebiaa
open Go.ChangeShapes Go.WideShapes Go.ChangeAt Go.RowKit Go.Deep

set_option maxRecDepth 100000 in
theorem textBinds_lifted (os : Os) (started : os.Started) (H : Type) (enc : TypeId × Value → H) :
    ReturnsInHanded {} Try.checked os 5 .any (Rows.textBindsSpec.pre6 enc Try.prog Try.f5 Rows.textBindsRow.domain false) (Rows.textBindsSpec.post enc Try.prog Try.f5 false true false false) := by
  refine returnsInHanded_of_change_sized (C := Try.checked) own started (by kernel_rfl) Try.func5
    (ChangeSpec.witness6 (enc := enc) (C := Try.checked) false ⟨#[], #[.slice none 0 0, .slice none 0 0], []⟩ 8 (by kernel_rfl) (by kernel_rfl) (by kernel_rfl) (by kernel_rfl)) ?_
  intro W base args ds gs before hval0 hW hcnd hsz0 _
  have hval : ∀ (j : Nat) t v, Try.f5.params[j]? = some t → args[j]? = some v → Value.okWide Try.prog W .any base t v := hval0
  have hW' := hW
  obtain ⟨p, q, hA0, hV, rfl, hfz, hnd⟩ := hW
  have hA : DataW.TrodAll enc Try.prog W 0 (fun _ => true) true Try.f5.params.toList args.toList ds p := hA0
  rw [Try.params5] at hA hval
  obtain ⟨v0, vs0, d0, ds0, p0, q0, hargs, rfl, rfl, h0, r0⟩ := trodAll_cons hA
  obtain ⟨v1, vs1, d1, ds1, p1, q1, rfl, rfl, rfl, h1, r1⟩ := trodAll_cons r0
  obtain ⟨rfl, rfl, rfl⟩ := trodAll_nil r1
  obtain rfl : args = #[v0, v1] := by cases args; simp_all
  obtain ⟨rfl, rfl⟩ := trodVars_none hV
  have lt0 : ∀ x ∈ p0, x.block < W.heap.size := by obtain ⟨m, hm⟩ := h0; exact DataW.trod_lt m _ _ _ hm
  have lt1 : ∀ x ∈ p1, x.block < W.heap.size := by obtain ⟨m, hm⟩ := h1; exact DataW.trod_lt m _ _ _ hm
  obtain ⟨a0, len0, cap0, rfl⟩ := okWide_slice Try.underlying23 (hval 0 23 v0 rfl rfl)
  obtain ⟨a1, len1, cap1, rfl⟩ := okWide_slice Try.underlying24 (hval 1 24 v1 rfl rfl)
  obtain ⟨l, hl, _, _⟩ := sig_open h0
  obtain ⟨ss, hss⟩ := strs_open h1
  clear hA0 hval0 hsz0
  refine (textBinds_walk a0 len0 cap0 l a1 len1 cap1 ss W hl hss).mono fun e W' ⟨he, bel⟩ => ?_
  subst he
  exact ⟨_, rfl, _, _, _, [], _, [], hW', trodAll_mk1 (shut_bool Try.underlying4 _), (trodAll_cons_mk (Below.trod laidOut (by kernel_rfl) (of_decide_eq_true (by kernel_rfl)) h0 bel lt0) (trodAll_cons_mk (Below.trod laidOut (by kernel_rfl) (of_decide_eq_true (by kernel_rfl)) h1 bel lt1) trodAll_mk0)), rfl, bel.frame _, fun h => by cases h⟩

theorem textBinds_holds : Rows.TextBindsSaid :=
  OpenClaim.holds_of_wide 5 Try.f5 rfl rfl rfl rfl rfl rfl rfl ⟨rfl, rfl, rfl, rfl, rfl⟩ rfl rfl rfl rfl rfl (by kernel_rfl) Try.func5 (by kernel_rfl)
    (of_decide_eq_true (by kernel_rfl)) (by unfold Func.isWrapper; first | (rw [if_pos (by decide +kernel)]; kernel_rfl) | (rw [if_neg (by decide +kernel)]; exact ⟨rfl, rfl⟩))
    (fun os started H enc _ => textBinds_lifted os started H enc)
end Go.Proofs.Ytkcbhbkldcebiaa
