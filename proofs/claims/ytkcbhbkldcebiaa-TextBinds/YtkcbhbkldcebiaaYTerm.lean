/- What the document's Reader reads as a term. -/
import Derived.Test.YtkcbhbkldcebiaaYWord
import Derived.Test.YtkcbhbkldcebiaaXTerm
import Derived.Test.YtkcbhbkldcebiaaYPure
namespace Go.Proofs.Ytkcbhbkldcebiaa
open Go.RowKit Go.Deep

theorem Lst.setL {b : Nat} {W : World} {v : Value} {ks : List Kv} (h : Lst b W v ks) {p : Addr} (hp : p.block < b) (u : Value) : Lst b (W.setCell p u) v ks :=
  ⟨owns_block h.row (fun q hq => by have := (owns_cells h.row hq).1; exact Below.heap_setCell W p u q (by omega)), fun k hk => (h.own k hk).keep (fun q hq _ => Below.heap_setCell W p u q (by have := hq.1; omega))⟩
/-- How the document's reading of a term ends. -/
def RTermEnd (B : Nat) (sg : Value) (s : ByteArray) (p : Nat) (w : World) (res : Except (Int × Nat) (Fo × Nat)) (e : Ending) (w' : World) : Prop := (match res with
    | .error q => ∃ (x : ByteArray × Int) (a : Option Addr) (n c k' : Nat), e = .returned (.agg #[.string x.1, .int .i64 x.2, .slice a n c]) ∧ RfBox w' B sg s k' q.1 q.2
    | .ok (F, k') => ∃ x m a c, F = .node 0 0 x m .nil ∧ e = .returned (.agg #[.string x.1, .int .i64 x.2, .slice a (lenF m) c]) ∧ OwnTm false (fun q => w.heap.size ≤ q) w' x a c m ∧ RfBox w' B sg s k' 0 p) ∧ FrB B w w'
def RTermOk (w0 : World) (B : Nat) (S : Option Addr) (n cap : Nat) (l : List Sym) (s : ByteArray) (z : Nat) : Prop := ∀ (k p : Nat) (w : World), k ≤ s.size → s.size - k ≤ z → RfBox w B (.slice S n cap) s k 0 p → Below w0.heap.size w0 w →
  Calls Try.prog 34 #[.pointer (some ⟨B, 0, none⟩)] w fun e w' => RTermEnd B (.slice S n cap) s p w (rdC s l false k) e w'

theorem rd_args' (s : ByteArray) (l : List Sym) (te : Nat) (i : Int) (fb : Bool) (wp : Nat) : (if fb = true then (match passP s te 3 with
      | .error e => .error e
      | .ok (false, k1) => .ok (.node 0 0 (⟨#[]⟩, i) .nil .nil, k1)
      | .ok (true, k1) => match rdC s l false k1 with
        | .error e => .error e
        | .ok (.nil, _) => .error (0, 0)
        | .ok (.node _ _ x m _, k2) => match rdC s l true k2 with
          | .error e => .error e
          | .ok (F, k3) => .ok (.node 0 0 (⟨#[]⟩, i) (.node 0 0 x m F) .nil, k3) : Except (Int × Nat) (Fo × Nat)) else .error (53, wp)) = if fb = true then (match argsC s l te with
      | .error e => .error e
      | .ok (F, k3) => .ok (.node 0 0 (⟨#[]⟩, i) F .nil, k3)) else .error (53, wp) := by
  cases fb with
  | true => rw [if_pos rfl, if_pos rfl]; exact rd_args s l te i
  | false => rfl

set_option maxRecDepth 100000 in
set_option maxHeartbeats 8000000 in
theorem rterm_of {w0 : World} {B : Nat} {S : Option Addr} {n cap : Nat} {l : List Sym} {s : ByteArray} {z : Nat} (hB0 : w0.heap.size ≤ B) (hs : s.size ≤ 800) (hS : SigAt w0 S n l) (ih : ∀ y, y < z → RTermOk w0 B S n cap l s y) : RTermOk w0 B S n cap l s z := by
  intro k p w hk hz hB hL
  have HB := hid hB
  have HL := hid hL
  have HS := hid hS
  have hBlt := hB.lt
  have hsm : s.size ≤ maxLen := by unfold maxLen; omega
  have HW : Hid (∀ (W : World) (q : Nat), q ≤ s.size → RfBox W B (.slice S n cap) s q 0 p → Calls Try.prog 43 #[.pointer (some ⟨B, 0, none⟩)] W fun e w' => e = .returned (wordF s q 0 p).1.val ∧ RfBox w' B (.slice S n cap) s (wordF s q 0 p).2.1 (wordF s q 0 p).2.2.1 (wordF s q 0 p).2.2.2 ∧ FrB B W w') := hid fun W q hq hW => word_rf B _ s q p 0 W hW hsm hq
  have HFL : Hid (∀ (W : World) (q : Nat) (e : Int) (t : Nat), RfBox W B (.slice S n cap) s q 0 p → Calls Try.prog 44 #[.pointer (some ⟨B, 0, none⟩), .int .i64 e, .int .i64 t] W fun x w' => x = .returned (.tuple #[]) ∧ RfBox w' B (.slice S n cap) s q e t ∧ FrB B W w') := hid fun W q e t hW => by
    have := fails_rf B _ s q p 0 e t W hW
    simpa using this
  have IH := hid ih
  obtain ⟨res, hres⟩ : ∃ res, rdC s l false k = res := ⟨_, rfl⟩
  rw [hres]
  rw [rdC_eq hk] at hres
  unfold rd1 at hres
  dsimp only at hres
  have B0 := alloc_below0 w (.cells #[.string ⟨#[]⟩, .int .i64 0, .slice none 0 0] 28)
  have HB0 := hid (hB.below B0)
  have F0 : Hid (FrB B w (w.alloc (.cells #[.string ⟨#[]⟩, .int .i64 0, .slice none 0 0] 28))) := hid (Fr.of_below B0)
  have X0 : Hid (XBox (w.alloc (.cells #[.string ⟨#[]⟩, .int .i64 0, .slice none 0 0] 28)) w.heap.size (⟨#[]⟩, 0) (.slice none 0 0)) := World.alloc_heap_new w _
  have hcn := HW.out _ k hk HB0.out
  have ne2 : B ≠ w.heap.size := by omega
  clear hB hL ih hS B0
  unfold nextP lookP at hres
  unfold wordF at hcn
  rw [if_pos rfl] at hcn
  have hnxt := nx_to (s := s) (k := k) hk
  have hnxx := nx_text s k
  obtain ⟨r, hr⟩ : ∃ r, nx s k = r := ⟨_, rfl⟩
  rw [hr] at hres hcn hnxt hnxx
  obtain ⟨⟨wk, wt, wp⟩, te, er⟩ := r
  dsimp only at hres hcn hnxt hnxx
  clear hr
  by_cases he : er = 0
  · subst he
    rw [if_pos rfl] at hres hcn
    dsimp only at hres hcn
    by_cases hk0 : wk = 0
    · subst hk0
      rw [if_pos rfl] at hres hcn
      unfold Wd.val at hcn
      dsimp only at hres hcn
      have HC := hid hcn
      clear hcn hnxt
      go_enter Try.func34, Try.ntmps34
      go_wp2_with fail
      refine HC.out.mono ?_
      rintro e w1 ⟨rfl, hrb, hf1⟩
      have hw1 := hf1.low.size
      rw [World.size_alloc] at hw1
      have B1 := alloc_below0 w1 (.cells #[.int .i64 0, .string wt, .int .i64 wp] 71)
      have R1 := hid (hrb.below B1)
      have X1 : Hid (XBox (w1.alloc (.cells #[.int .i64 0, .string wt, .int .i64 wp] 71)) w.heap.size (⟨#[]⟩, 0) (.slice none 0 0)) := hid (XBox.below ((hf1.same _ X0.out.lt (by omega)).trans X0.out) B1)
      have W1 : Hid (WdBox (w1.alloc (.cells #[.int .i64 0, .string wt, .int .i64 wp] 71)) w1.heap.size ⟨0, wt, wp⟩) := World.alloc_heap_new w1 _
      have F1 : Hid (FrB B w (w1.alloc (.cells #[.int .i64 0, .string wt, .int .i64 wp] 71))) := hid ((F0.out.trans hf1).trans (Fr.of_below B1))
      clear hrb hf1 B1 HC HB0 F0 X0
      have y0 := W1.out.k0
      have c1 := R1.out.c1; have c3 := R1.out.c3
      go_wp2_with fail
      generalize w1.alloc (.cells #[.int .i64 0, .string wt, .int .i64 wp] 71) = V1 at R1 X1 W1 F1 c1 c3 y0 ⊢
      refine (HFL.out V1 k 51 s.size R1.out).mono ?_
      rintro e w2 ⟨rfl, hrb2, hf2⟩
      have X2 : Hid (XBox w2 w.heap.size (⟨#[]⟩, 0) (.slice none 0 0)) := hid ((hf2.same _ X1.out.lt (Ne.symm ne2)).trans X1.out)
      have R2 := hid hrb2
      have F2 := hid (F1.out.trans hf2)
      clear hrb2 hf2 c1 c3 y0
      have r0 := X2.out.c0; have r1 := X2.out.c1; have r2 := X2.out.c2
      have z0 := X2.out.f (k := 0); have z1 := X2.out.f (k := 1); have z2 := X2.out.f (k := 2)
      go_wp2
      refine bodyPost_ret (results_cell_row rfl _ _ w.heap.size 28 #[.string ⟨#[]⟩, .int .i64 0, .slice none 0 0] (0, 0) _ rfl (X2.out.all (x := ((⟨#[]⟩ : ByteArray), (0 : Int))) _) Try.underlying28 rfl Try.size28) rfl ?_
      rw [← hres]
      exact ⟨⟨((⟨#[]⟩ : ByteArray), (0 : Int)), none, 0, 0, k, rfl, (sets_far ne2 _ _ _).trans R2.out⟩, frB_sets F2.out (Nat.le_refl _) _ _ _⟩
    · rw [if_neg hk0] at hres hcn
      have hto := hnxt hk0
      unfold Wd.val at hcn
      dsimp only at hres hcn
      have HC := hid hcn
      have hk0b : (wk == 0) = false := by simpa using hk0
      clear hcn hnxt
      go_enter Try.func34, Try.ntmps34
      go_wp2_with fail
      refine HC.out.mono ?_
      rintro e w1 ⟨rfl, hrb, hf1⟩
      have hw1 := hf1.low.size
      rw [World.size_alloc] at hw1
      have B1 := alloc_below0 w1 (.cells #[.int .i64 wk, .string wt, .int .i64 wp] 71)
      have R1 := hid (hrb.below B1)
      have X1 : Hid (XBox (w1.alloc (.cells #[.int .i64 wk, .string wt, .int .i64 wp] 71)) w.heap.size (⟨#[]⟩, 0) (.slice none 0 0)) := hid (XBox.below ((hf1.same _ X0.out.lt (by omega)).trans X0.out) B1)
      have W1 : Hid (WdBox (w1.alloc (.cells #[.int .i64 wk, .string wt, .int .i64 wp] 71)) w1.heap.size ⟨wk, wt, wp⟩) := World.alloc_heap_new w1 _
      have F1 : Hid (FrB B w (w1.alloc (.cells #[.int .i64 wk, .string wt, .int .i64 wp] 71))) := hid ((F0.out.trans hf1).trans (Fr.of_below B1))
      have hv1 : w1.heap.size < (w1.alloc (.cells #[.int .i64 wk, .string wt, .int .i64 wp] 71)).heap.size := by rw [World.size_alloc]; omega
      clear hrb hf1 B1 HC HB0 F0 X0
      have y0 := W1.out.k0; have y1 := W1.out.k1; have y2 := W1.out.k2
      have c0 := R1.out.c0; have c1 := R1.out.c1; have c3 := R1.out.c3
      by_cases h2 : wk = 2
      · subst h2
        rw [if_pos rfl] at hres
        have r0 := X1.out.c0; have r1 := X1.out.c1; have r2 := X1.out.c2
        have z0 := X1.out.f (k := 0); have z1 := X1.out.f (k := 1); have z2 := X1.out.f (k := 2)
        go_wp2
        refine bodyPost_ret (results_cell_row rfl _ _ w.heap.size 28 #[.string wt, .int .i64 0, .slice none 0 0] (0, 0) _ rfl (X1.out.all (x := (wt, 0)) _) Try.underlying28 rfl Try.size28) rfl ?_
        rw [← hres]
        exact ⟨⟨(wt, 0), .nil, none, 0, rfl, rfl, ⟨⟨Nat.le_trans hnxx hsm, Nat.le_refl _, by simp, by simp [lenF]⟩, .inl ⟨rfl, rfl⟩⟩, (sets_far ne2 _ _ _).trans R1.out⟩, frB_sets F1.out (Nat.le_refl _) _ _ _⟩
      · rw [if_neg h2] at hres
        have h2b : (wk == 2) = false := by simpa using h2
        by_cases h1 : wk = 1
        · subst h1
          rw [if_pos rfl] at hres
          replace hres := (rd_args' s l te (findI l wt) (findB l wt) wp).symm.trans hres
          have L1 := hid (low_fr HL.out F1.out hB0)
          have HRS := hid hres
          clear hres
          go_upto_region 12 with fail
          generalize w1.alloc (.cells #[.int .i64 1, .string wt, .int .i64 wp] 71) = V1 at R1 X1 W1 F1 L1 hv1 y0 y1 y2 c0 c1 c3 ⊢
          obtain ⟨fb, hfb⟩ : ∃ fb, findB l wt = fb := ⟨_, rfl⟩
          obtain ⟨fi, hfi⟩ : ∃ fi, findI l wt = fi := ⟨_, rfl⟩
          rw [hfb, hfi] at HRS
          have HN1 : Hid (∀ W, Below V1.heap.size V1 W → Calls Try.prog 58 #[.slice S n cap, .string wt] W fun e w' => e = .returned (.tuple #[.int .i64 fi, .bool fb]) ∧ Below W.heap.size W w') := hid fun W hW => by
            refine (rfind_any S n cap l wt W (HS.out.below (L1.out.trans (hW.mono L1.out.size)))).mono ?_
            rintro e w' ⟨h1, rfl⟩
            unfold FindRet at h1
            rw [hfb, hfi] at h1
            exact ⟨h1, Below.refl _ _⟩
          have hne := later_some V1
          have d0 := later_cell c0
          have d1 := later_cell y1
          have d2 := later_cell y2
          clear hfb hfi y0 y1 y2 c0 c1 c3
          refine wp_region_later (by kernel_rfl) (by kernel_rfl) ?_
          repeat (go_big_quiet_step (first | (go_at_call 58; with_reducible refine calls_later (HN1.out _ ?_); exact Later.below _) | fail))
          refine wpQuiet_nil ?_
          intro _ hw'
          obtain ⟨b3, hw''⟩ := hw'
          subst hw''
          have f2 := d2 b3
          have R3 := hid (R1.out.below b3.below)
          have X3 := hid (X1.out.below b3.below)
          have F3 := hid (F1.out.trans (Fr.of_below b3.below))
          have hb3s := b3.below.size
          clear d0 d1 d2 hne HN1 R1 X1 W1 F1
          obtain ⟨V3, hV3⟩ : ∃ V3, V3 = b3.now := ⟨_, rfl⟩
          rw [← hV3] at f2 R3 X3 F3 hb3s ⊢
          clear hV3
          cases fb with
          | false =>
            go_wp2_with fail
            refine (HFL.out V3 te 53 wp R3.out).mono ?_
            rintro e w4 ⟨rfl, hrb4, hf4⟩
            have X4 : Hid (XBox w4 w.heap.size (⟨#[]⟩, 0) (.slice none 0 0)) := hid ((hf4.same _ X3.out.lt (Ne.symm ne2)).trans X3.out)
            have R4 := hid hrb4
            have F4 := hid (F3.out.trans hf4)
            have hres := HRS.out
            clear hrb4 hf4 f2
            have r0 := X4.out.c0; have r1 := X4.out.c1; have r2 := X4.out.c2
            have z0 := X4.out.f (k := 0); have z1 := X4.out.f (k := 1); have z2 := X4.out.f (k := 2)
            go_wp2
            refine bodyPost_ret (results_cell_row rfl _ _ w.heap.size 28 #[.string ⟨#[]⟩, .int .i64 0, .slice none 0 0] (0, 0) _ rfl (X4.out.all (x := ((⟨#[]⟩ : ByteArray), (0 : Int))) _) Try.underlying28 rfl Try.size28) rfl ?_
            rw [← hres]
            exact ⟨⟨((⟨#[]⟩ : ByteArray), (0 : Int)), none, 0, 0, te, rfl, (sets_far ne2 _ _ _).trans R4.out⟩, frB_sets F4.out (Nat.le_refl _) _ _ _⟩
          | true =>
            have hres := HRS.out
            rw [if_pos rfl] at hres
            have HRS2 := hid hres
            clear HRS hres f2
            have B4 := alloc_below0 V3 (.cells #[.string ⟨#[]⟩, .int .i64 fi, .slice none 0 0] 28)
            have R4 := hid (R3.out.below B4)
            have X4 := hid (X3.out.below B4)
            have F4 := hid (F3.out.trans (Fr.of_below B4))
            have T4 : Hid (XBox (V3.alloc (.cells #[.string ⟨#[]⟩, .int .i64 fi, .slice none 0 0] 28)) V3.heap.size (⟨#[]⟩, fi) (.slice none 0 0)) := World.alloc_heap_new V3 _
            have hV4 : (V3.alloc (.cells #[.string ⟨#[]⟩, .int .i64 fi, .slice none 0 0] 28)).heap.size = V3.heap.size + 1 := World.size_alloc _ _
            clear B4 R3 X3 F3
            go_wp2_with fail
            generalize V3.alloc (.cells #[.string ⟨#[]⟩, .int .i64 fi, .slice none 0 0] 28) = V4 at R4 X4 F4 T4 hV4 ⊢
            have hpk := peek_rf B (.slice S n cap) s te p 0 V4 R4.out hsm hto.2
            unfold wordF at hpk
            rw [if_pos rfl] at hpk
            have hres := HRS2.out
            unfold argsC passP lookP at hres
            have hnxt2 := nx_to (s := s) (k := te) hto.2
            obtain ⟨r2, hr2⟩ : ∃ r2, nx s te = r2 := ⟨_, rfl⟩
            have HNX := hid hr2
            rw [hr2] at hpk hres hnxt2
            obtain ⟨⟨wk2, wt2, wp2⟩, te2, er2⟩ := r2
            dsimp only at hpk hres hnxt2
            by_cases he2 : er2 = 0
            · subst he2
              rw [if_pos rfl] at hpk hres
              unfold Wd.val at hpk
              dsimp only at hpk hres
              refine hpk.mono ?_
              rintro e w5 ⟨rfl, hrb5, hf5⟩
              have B5 := alloc_below0 w5 (.cells #[.int .i64 wk2, .string wt2, .int .i64 wp2] 71)
              have R5 := hid (hrb5.below B5)
              have X5 := hid (XBox.below ((hf5.same _ X4.out.lt (Ne.symm ne2)).trans X4.out) B5)
              have T5 := hid (XBox.below ((hf5.same _ T4.out.lt (by omega)).trans T4.out) B5)
              have W5 : Hid (WdBox (w5.alloc (.cells #[.int .i64 wk2, .string wt2, .int .i64 wp2] 71)) w5.heap.size ⟨wk2, wt2, wp2⟩) := World.alloc_heap_new w5 _
              have F5 := hid ((F4.out.trans hf5).trans (Fr.of_below B5))
              have hw5 := hf5.low.size
              have hV5 : (w5.alloc (.cells #[.int .i64 wk2, .string wt2, .int .i64 wp2] 71)).heap.size = w5.heap.size + 1 := World.size_alloc _ _
              clear hpk hrb5 hf5 B5 R4 X4 T4 F4
              have y0 := W5.out.k0
              have c3 := R5.out.c3
              have t0 := T5.out.c0; have t1 := T5.out.c1; have t2 := T5.out.c2
              have r0 := X5.out.c0; have r1 := X5.out.c1; have r2 := X5.out.c2
              have z0 := X5.out.f (k := 0); have z1 := X5.out.f (k := 1); have z2 := X5.out.f (k := 2)
              by_cases h3 : wk2 = 3
              · subst h3
                have HRS3 := hid hres
                have hk1 := hnxt2 (by decide)
                clear hres HRS2
                go_wp2_with fail
                generalize w5.alloc (.cells #[.int .i64 3, .string wt2, .int .i64 wp2] 71) = V5 at R5 X5 T5 W5 F5 hV5 y0 c3 t0 t1 t2 r0 r1 r2 z0 z1 z2 ⊢
                have hwd := HW.out V5 te hto.2 R5.out
                unfold wordF at hwd
                rw [if_pos rfl, HNX.out] at hwd
                dsimp only at hwd
                rw [if_pos rfl] at hwd
                dsimp only at hwd
                refine hwd.mono ?_
                rintro e w6 ⟨rfl, hrb6, hf6⟩
                rw [if_neg (by decide)] at hrb6
                have R6 := hid hrb6
                have X6 : Hid (XBox w6 w.heap.size (⟨#[]⟩, 0) (.slice none 0 0)) := hid ((hf6.same _ X5.out.lt (Ne.symm ne2)).trans X5.out)
                have T6 : Hid (XBox w6 V3.heap.size (⟨#[]⟩, fi) (.slice none 0 0)) := hid ((hf6.same _ T5.out.lt (by omega)).trans T5.out)
                have F6 := hid (F5.out.trans hf6)
                have hw6 := hf6.low.size
                clear hwd hrb6 hf6 R5 X5 T5 W5 F5 y0 c3 t0 t1 t2 r0 r1 r2 z0 z1 z2
                go_wp2_with fail
                have hrel0 : Hid (match rdC s l false te2 with | .error e => res = .error e | .ok (.nil, _) => True | .ok (.node _ _ x m _, k2) => (match rdC s l true k2 with | .error e => res = .error e | .ok (F, k3) => res = .ok (.node 0 0 ((⟨#[]⟩ : ByteArray), fi) (appF [] (.node 0 0 x m F)) .nil, k3))) := by
                  show match rdC s l false te2 with | .error e => res = .error e | .ok (.nil, _) => True | .ok (.node _ _ x m _, k2) => (match rdC s l true k2 with | .error e => res = .error e | .ok (F, k3) => res = .ok (.node 0 0 ((⟨#[]⟩ : ByteArray), fi) (appF [] (.node 0 0 x m F)) .nil, k3))
                  have hres := HRS3.out
                  simp only [if_true] at hres
                  rw [← hres]
                  cases rdC s l false te2 with
                  | error e => rfl
                  | ok q =>
                    obtain ⟨G, k2⟩ := q
                    cases G with
                    | nil => trivial
                    | node _ _ x m r =>
                      dsimp only
                      cases rdC s l true k2 with
                      | error e => rfl
                      | ok q => rfl
                clear HRS3
                go_loopw [8] (fun _ wr => ∃ (kc : Nat) (ks : List Kv) (v : Value), te < kc ∧ kc ≤ s.size ∧ ks.length + te < kc ∧ RfBox wr B (.slice S n cap) s kc 0 p ∧ XBox wr V3.heap.size (⟨#[]⟩, fi) v ∧ Lst (V3.heap.size + 1) wr v ks ∧ XBox wr w.heap.size (⟨#[]⟩, 0) (.slice none 0 0) ∧ FrB B w wr ∧ V3.heap.size + 1 ≤ wr.heap.size ∧ (match rdC s l false kc with | .error e => res = .error e | .ok (.nil, _) => True | .ok (.node _ _ x m _, k2) => (match rdC s l true k2 with | .error e => res = .error e | .ok (F, k3) => res = .ok (.node 0 0 ((⟨#[]⟩ : ByteArray), fi) (appF ks (.node 0 0 x m F)) .nil, k3)))) (fun _ wr => match wr.cell? ⟨B, 2, none⟩ with | some (.int _ q) => s.size - q.toNat | _ => 0)
                case atStart => exact ⟨te2, [], _, hk1.1, hk1.2, by simp; omega, R6.out, T6.out, Lst.nil _ _, X6.out, F6.out, by omega, hrel0.out⟩
                case round =>
                  obtain ⟨kc, ks, v, hkc, hkc2, hlen, hrb, htb, hlst, hxb, hfr, hsz, hrel1⟩ := hrel
                  have R7 := hid hrb
                  have T7 := hid htb
                  have L7 := hid hlst
                  have X7 := hid hxb
                  have F7 := hid hfr
                  have HREL := hid hrel1
                  have hc2 := hrb.c2
                  clear hrb htb hlst hxb hfr hrel1 hrel0 R6 T6 X6 F6
                  have ht := IH.out (s.size - kc) (by omega) kc p wr hkc2 (Nat.le_refl _) R7.out (low_fr HL.out F7.out hB0)
                  go_wp2_with fail
                  refine ht.mono ?_
                  rintro e w8 ⟨he8, hf8⟩
                  have X8 : Hid (XBox w8 w.heap.size (⟨#[]⟩, 0) (.slice none 0 0)) := hid ((hf8.same _ X7.out.lt (Ne.symm ne2)).trans X7.out)
                  have T8 : Hid (XBox w8 V3.heap.size (⟨#[]⟩, fi) v) := hid ((hf8.same _ T7.out.lt (by omega)).trans T7.out)
                  have F8 := hid (F7.out.trans hf8)
                  have HF8 := hid hf8
                  have hw8 := hf8.low.size
                  clear ht hf8
                  cases hrd : rdC s l false kc with
                  | error q =>
                    have hres := HREL.out
                    rw [hrd] at hres he8
                    dsimp only at hres he8
                    obtain ⟨x8, a8, n8, c8, k8, rfl, hrb8⟩ := he8
                    have hq := rdC_err _ _ _ _ hkc2 (Nat.le_refl _) hrd
                    obtain ⟨qe, qp⟩ := q
                    dsimp only at hrb8 hq
                    have hqb : (qe != 0) = true := by simpa using hq
                    have B9 := alloc_below0 w8 (.cells #[.string x8.1, .int .i64 x8.2, .slice a8 n8 c8] 28)
                    have R9 := hid (hrb8.below B9)
                    have X9 := hid (X8.out.below B9)
                    have F9 := hid (F8.out.trans (Fr.of_below B9))
                    clear hrb8 B9
                    have c3 := R9.out.c3
                    have r0 := X9.out.c0; have r1 := X9.out.c1; have r2 := X9.out.c2
                    have z0 := X9.out.f (k := 0); have z1 := X9.out.f (k := 1); have z2 := X9.out.f (k := 2)
                    go_wp2
                    refine bodyPost_ret (results_cell_row rfl _ _ w.heap.size 28 #[.string ⟨#[]⟩, .int .i64 0, .slice none 0 0] (0, 0) _ rfl (X9.out.all (x := ((⟨#[]⟩ : ByteArray), (0 : Int))) _) Try.underlying28 rfl Try.size28) rfl ?_
                    rw [hres]
                    exact ⟨⟨((⟨#[]⟩ : ByteArray), (0 : Int)), none, 0, 0, k8, rfl, (sets_far ne2 _ _ _).trans R9.out⟩, frB_sets F9.out (Nat.le_refl _) _ _ _⟩
                  | ok q =>
                    obtain ⟨G, k2⟩ := q
                    have hk2 := rdC_to hkc2 hrd
                    have hres := HREL.out
                    rw [hrd] at hres he8
                    dsimp only at he8
                    obtain ⟨x8, m8, a8, c8, rfl, rfl, ho8, hrb8⟩ := he8
                    dsimp only at hres
                    have HRS8 := hid hres
                    have B9 := alloc_below0 w8 (.cells #[.string x8.1, .int .i64 x8.2, .slice a8 (lenF m8) c8] 28)
                    have R9 := hid (hrb8.below B9)
                    have X9 := hid (X8.out.below B9)
                    have T9 := hid (T8.out.below B9)
                    have F9 := hid (F8.out.trans (Fr.of_below B9))
                    have O9 := hid (ho8.below B9)
                    have K9 : Hid (XBox (w8.alloc (.cells #[.string x8.1, .int .i64 x8.2, .slice a8 (lenF m8) c8] 28)) w8.heap.size x8 (.slice a8 (lenF m8) c8)) := World.alloc_heap_new w8 _
                    have G9 := hid (HF8.out.trans (Fr.of_below B9))
                    clear hrb8 B9 ho8 hres HREL hrd X8 T8 F8
                    have hW9s : (w8.alloc (.cells #[.string x8.1, .int .i64 x8.2, .slice a8 (lenF m8) c8] 28)).heap.size = w8.heap.size + 1 := World.size_alloc _ _
                    go_upto_region 22 with fail
                    generalize w8.alloc (.cells #[.string x8.1, .int .i64 x8.2, .slice a8 (lenF m8) c8] 28) = W9 at R9 X9 T9 F9 O9 K9 G9 hW9s ⊢
                    have HW9 := hid hW9s
                    clear hW9s
                    have c3 := R9.out.c3
                    have t2 := T9.out.c2
                    have k0 := K9.out.c0; have k1 := K9.out.c1; have k2' := K9.out.c2
                    have hBb : B < V3.heap.size + 1 := by omega
                    go_wp2_with (first
                      | (at_builtin; refine wpList_append_lst rfl _ _ rfl (V3.heap.size + 1) v ks rfl (owns_below (L7.out.fr G9.out hBb).row (alloc_below0 W9 _)) (some ⟨W9.heap.size, 0, none⟩) 1 1 [⟨x8, m8, a8, c8⟩] rfl (RowAt.new W9 ⟨x8, m8, a8, c8⟩) (fun e => by cases e) (fun _ => Nat.one_pos) ?_ ?_ ?_; (solve | (have := HW9.out; omega)); (solve | (have := HW9.out; rw [World.size_alloc]; omega)); intro v10 w10 hown10 hgrow10 hat10; obtain ⟨a10, c10, rfl, hg1, hg2, hr10, hg3, hg4⟩ := row_of_owns hown10; clear hg1 hg2 hr10 hg3 hg4; have L10 := hid (L7.out.push (k := ⟨x8, m8, a8, c8⟩) (G9.out.trans (Fr.of_below (alloc_below0 W9 _))) hBb hsz (O9.out.below (alloc_below0 W9 _)) hgrow10 hat10 hown10); have OC := fun g (e : v.ownBlock = some g) => (owns_cells L7.out.row e).1; have T10 := hid ((T9.out.below (alloc_below0 W9 (.cells #[.string x8.1, .int .i64 x8.2, .slice a8 (lenF m8) c8] 28))).kept hgrow10 (fun e => by have := OC _ e.symm; omega)); have X10 := hid ((X9.out.below (alloc_below0 W9 (.cells #[.string x8.1, .int .i64 x8.2, .slice a8 (lenF m8) c8] 28))).kept hgrow10 (fun e => by have := OC _ e.symm; omega)); have R10 : Hid (RfBox w10 B (.slice S n cap) s k2 0 p) := hid ((hgrow10.block B (by have := HW9.out; rw [World.size_alloc]; omega) (fun e => by have := OC _ e.symm; omega)).trans (R9.out.below (alloc_below0 W9 _))); have F10 : Hid (FrB B w w10) := hid ⟨(F9.out.trans (Fr.of_below (alloc_below0 W9 (.cells #[.string x8.1, .int .i64 x8.2, .slice a8 (lenF m8) c8] 28)))).low.grown hgrow10 (Nat.zero_le _) (fun _ _ => Nat.zero_le _), fun q hq hn => (hgrow10.block q (by have := HW9.out; have := F9.out.low.size; rw [World.size_alloc]; omega) (fun e => by have := OC _ e.symm; omega)).trans ((F9.out.trans (Fr.of_below (alloc_below0 W9 _))).same q hq hn)⟩; have tt := T10.out.c2; have tf := T10.out.f (k := 2); have hw10 := hgrow10.size; clear hown10 hat10 hgrow10 OC))
                    have hl10 : (ks ++ [(⟨x8, m8, a8, c8⟩ : Kv)]).length = ks.length + 1 := by simp
                    rw [hl10] at L10
                    have neT : V3.heap.size ≠ B := by omega
                    have R11 : Hid (RfBox (w10.setCell ⟨V3.heap.size, 2, none⟩ (.slice a10 (ks.length + 1) c10)) B (.slice S n cap) s k2 0 p) := hid ((Below.heap_setCell _ _ _ _ (Ne.symm neT)).trans R10.out)
                    have X11 : Hid (XBox (w10.setCell ⟨V3.heap.size, 2, none⟩ (.slice a10 (ks.length + 1) c10)) w.heap.size (⟨#[]⟩, 0) (.slice none 0 0)) := hid ((Below.heap_setCell _ _ _ _ (by show w.heap.size ≠ V3.heap.size; omega)).trans X10.out)
                    have T11 : Hid (XBox (w10.setCell ⟨V3.heap.size, 2, none⟩ (.slice a10 (ks.length + 1) c10)) V3.heap.size (⟨#[]⟩, fi) (.slice a10 (ks.length + 1) c10)) := hid (by have := block_set (k := 2) T10.out (.slice a10 (ks.length + 1) c10); exact this)
                    have L11 : Hid (Lst (V3.heap.size + 1) (w10.setCell ⟨V3.heap.size, 2, none⟩ (.slice a10 (ks.length + 1) c10)) (.slice a10 (ks.length + 1) c10) (ks ++ [⟨x8, m8, a8, c8⟩])) := hid (L10.out.setL (p := ⟨V3.heap.size, 2, none⟩) (Nat.lt_succ_self _) _)
                    have F11 : Hid (FrB B w (w10.setCell ⟨V3.heap.size, 2, none⟩ (.slice a10 (ks.length + 1) c10))) := hid ⟨F10.out.low.setCell (p := ⟨V3.heap.size, 2, none⟩) (Nat.zero_le _) _, fun q hq hn => (Below.heap_setCell _ _ _ q (by show q ≠ V3.heap.size; omega)).trans (F10.out.same q hq hn)⟩
                    have hw11 : (w10.setCell ⟨V3.heap.size, 2, none⟩ (.slice a10 (ks.length + 1) c10)).heap.size = w10.heap.size := by simp [World.setCell]
                    rw [World.size_alloc] at hw10
                    have hW9' := HW9.out
                    generalize w10.setCell ⟨V3.heap.size, 2, none⟩ (.slice a10 (ks.length + 1) c10) = W11 at R11 X11 T11 L11 F11 hw11 ⊢
                    clear tt tf T10 X10 R10 F10 L10 c3 t2 k0 k1 k2' R9 X9 T9 F9 O9 K9 G9 HF8 X7 T7 F7
                    have hwd := HW.out W11 k2 hk2.2 R11.out
                    unfold wordF at hwd
                    rw [if_pos rfl] at hwd
                    have hres := HRS8.out
                    rw [tail_eq hk2.2] at hres
                    have hnxt3 := nx_to (s := s) (k := k2) hk2.2
                    obtain ⟨r3, hr3⟩ : ∃ r3, nx s k2 = r3 := ⟨_, rfl⟩
                    rw [hr3] at hwd hres hnxt3
                    obtain ⟨⟨wk3, wt3, wp3⟩, te3, er3⟩ := r3
                    dsimp only at hwd hres hnxt3
                    clear hr3
                    by_cases he3 : er3 = 0
                    · subst he3
                      rw [if_pos rfl] at hwd hres
                      unfold Wd.val at hwd
                      dsimp only at hwd hres
                      refine hwd.mono ?_
                      rintro e w12 ⟨rfl, hrb12, hf12⟩
                      have B12 := alloc_below0 w12 (.cells #[.int .i64 wk3, .string wt3, .int .i64 wp3] 71)
                      have R12 := hid (hrb12.below B12)
                      have X12 := hid (XBox.below ((hf12.same _ X11.out.lt (Ne.symm ne2)).trans X11.out) B12)
                      have T12 := hid (XBox.below ((hf12.same _ T11.out.lt neT).trans T11.out) B12)
                      have L12 := hid ((L11.out.fr hf12 hBb).below B12)
                      have F12 := hid ((F11.out.trans hf12).trans (Fr.of_below B12))
                      have Y12 : Hid (WdBox (w12.alloc (.cells #[.int .i64 wk3, .string wt3, .int .i64 wp3] 71)) w12.heap.size ⟨wk3, wt3, wp3⟩) := World.alloc_heap_new w12 _
                      have hw12 := hf12.low.size
                      have hV12 : (w12.alloc (.cells #[.int .i64 wk3, .string wt3, .int .i64 wp3] 71)).heap.size = w12.heap.size + 1 := World.size_alloc _ _
                      clear hwd hrb12 hf12 B12 R11 X11 T11 L11 F11
                      have y0 := Y12.out.k0; have y1 := Y12.out.k1; have y2 := Y12.out.k2
                      have c1 := R12.out.c1; have c3 := R12.out.c3
                      by_cases hz3 : wk3 = 0
                      · subst hz3
                        rw [if_pos rfl] at hres R12
                        dsimp only at hres
                        go_wp2_with fail
                        generalize w12.alloc (.cells #[.int .i64 0, .string wt3, .int .i64 wp3] 71) = V12 at R12 X12 T12 L12 F12 Y12 hV12 y0 y1 y2 c1 c3 ⊢
                        refine (HFL.out V12 k2 51 s.size R12.out).mono ?_
                        rintro e w13 ⟨rfl, hrb13, hf13⟩
                        have X13 : Hid (XBox w13 w.heap.size (⟨#[]⟩, 0) (.slice none 0 0)) := hid ((hf13.same _ X12.out.lt (Ne.symm ne2)).trans X12.out)
                        have R13 := hid hrb13
                        have F13 := hid (F12.out.trans hf13)
                        clear hrb13 hf13 c1 c3 y0 y1 y2
                        have r0 := X13.out.c0; have r1 := X13.out.c1; have r2 := X13.out.c2
                        have z0 := X13.out.f (k := 0); have z1 := X13.out.f (k := 1); have z2 := X13.out.f (k := 2)
                        go_wp2
                        refine bodyPost_ret (results_cell_row rfl _ _ w.heap.size 28 #[.string ⟨#[]⟩, .int .i64 0, .slice none 0 0] (0, 0) _ rfl (X13.out.all (x := ((⟨#[]⟩ : ByteArray), (0 : Int))) _) Try.underlying28 rfl Try.size28) rfl ?_
                        rw [hres]
                        exact ⟨⟨((⟨#[]⟩ : ByteArray), (0 : Int)), none, 0, 0, k2, rfl, (sets_far ne2 _ _ _).trans R13.out⟩, frB_sets F13.out (Nat.le_refl _) _ _ _⟩
                      · have hz3b : (wk3 == 0) = false := by simpa using hz3
                        have hto3 := hnxt3 hz3
                        rw [if_neg hz3] at hres R12
                        by_cases h4 : wk3 = 4
                        · subst h4
                          rw [if_pos rfl] at hres
                          dsimp only at hres
                          obtain ⟨a13, c13, hv13, hown13⟩ := L12.out.term (F := appF (ks ++ [⟨x8, m8, a8, c8⟩]) .nil) ((⟨#[]⟩ : ByteArray), fi) (kids_appF _).symm (show (⟨#[]⟩ : ByteArray).size ≤ maxLen by decide) (by rw [len_appF, hl10]; omega)
                          rw [len_appF, hl10] at hv13
                          cases hv13
                          have O13 := hid hown13
                          clear hown13
                          have t0 := T12.out.c0; have t1 := T12.out.c1; have t2 := T12.out.c2
                          have r0 := X12.out.c0; have r1 := X12.out.c1; have r2 := X12.out.c2
                          have z0 := X12.out.f (k := 0); have z1 := X12.out.f (k := 1); have z2 := X12.out.f (k := 2)
                          go_wp2
                          refine bodyPost_ret (results_cell_row rfl _ _ w.heap.size 28 #[.string ⟨#[]⟩, .int .i64 fi, .slice a10 (ks.length + 1) c10] (0, 0) _ rfl (X12.out.all (x := ((⟨#[]⟩ : ByteArray), fi)) _) Try.underlying28 rfl Try.size28) rfl ?_
                          rw [hres]
                          have hap : appF ks (.node 0 0 x8 m8 .nil) = appF (ks ++ [⟨x8, m8, a8, c8⟩]) .nil := (appF_snoc ks ⟨x8, m8, a8, c8⟩ .nil).symm
                          rw [hap]
                          refine ⟨⟨((⟨#[]⟩ : ByteArray), fi), appF (ks ++ [⟨x8, m8, a8, c8⟩]) .nil, a10, c10, rfl, by rw [len_appF, hl10], ?_, (sets_far ne2 _ _ _).trans R12.out⟩, frB_sets F12.out (Nat.le_refl _) _ _ _⟩
                          have h5 : OwnTm false (fun q => w.heap.size ≤ q ∧ q ≠ w.heap.size) _ ((⟨#[]⟩ : ByteArray), fi) a10 c10 (appF (ks ++ [⟨x8, m8, a8, c8⟩]) .nil) := O13.out.mono (fun q _ hq => by omega)
                          exact (h5.keep (fun q hq _ => sets_far hq.2 _ _ _)).mono (fun q _ hq => hq.1)
                        · have h4b : (wk3 == 4) = false := by simpa using h4
                          rw [if_neg h4] at hres
                          by_cases h5 : wk3 = 5
                          · subst h5
                            rw [if_pos rfl] at hres
                            have HRS9 := hid hres
                            clear hres
                            go_wp2
                            go_roundw
                            case rel =>
                              refine ⟨te3, ks ++ [⟨x8, m8, a8, c8⟩], _, by omega, hto3.2, by rw [hl10]; omega, R12.out, T12.out, L12.out, X12.out, F12.out, by omega, ?_⟩
                              have h := HRS9.out
                              cases hq : rdC s l false te3 with
                              | error e => rw [hq] at h; exact h
                              | ok q =>
                                obtain ⟨G, k9⟩ := q
                                rw [hq] at h
                                cases G with
                                | nil => trivial
                                | node _ _ x9 m9 r9 =>
                                  dsimp only at h ⊢
                                  cases hq2 : rdC s l true k9 with
                                  | error e => rw [hq2] at h; exact h
                                  | ok q =>
                                    obtain ⟨F9, k10⟩ := q
                                    rw [hq2] at h
                                    dsimp only at h ⊢
                                    rw [appF_snoc]
                                    exact h
                            case measure =>
                              rw [R12.out.c2, hc2]
                              simp
                              omega
                          · have h5b : (wk3 != 5) = true := by simpa using h5
                            rw [if_neg h5] at hres
                            dsimp only at hres
                            go_wp2_with fail
                            generalize w12.alloc (.cells #[.int .i64 wk3, .string wt3, .int .i64 wp3] 71) = V12 at R12 X12 T12 L12 F12 Y12 hV12 y0 y1 y2 c1 c3 ⊢
                            refine (HFL.out V12 te3 52 wp3 R12.out).mono ?_
                            rintro e w13 ⟨rfl, hrb13, hf13⟩
                            have X13 : Hid (XBox w13 w.heap.size (⟨#[]⟩, 0) (.slice none 0 0)) := hid ((hf13.same _ X12.out.lt (Ne.symm ne2)).trans X12.out)
                            have R13 := hid hrb13
                            have F13 := hid (F12.out.trans hf13)
                            clear hrb13 hf13 c1 c3 y0 y1 y2
                            have r0 := X13.out.c0; have r1 := X13.out.c1; have r2 := X13.out.c2
                            have z0 := X13.out.f (k := 0); have z1 := X13.out.f (k := 1); have z2 := X13.out.f (k := 2)
                            go_wp2
                            refine bodyPost_ret (results_cell_row rfl _ _ w.heap.size 28 #[.string ⟨#[]⟩, .int .i64 0, .slice none 0 0] (0, 0) _ rfl (X13.out.all (x := ((⟨#[]⟩ : ByteArray), (0 : Int))) _) Try.underlying28 rfl Try.size28) rfl ?_
                            rw [hres]
                            exact ⟨⟨((⟨#[]⟩ : ByteArray), (0 : Int)), none, 0, 0, te3, rfl, (sets_far ne2 _ _ _).trans R13.out⟩, frB_sets F13.out (Nat.le_refl _) _ _ _⟩
                    · rw [if_neg he3] at hwd hres
                      unfold Wd.val noWd at hwd
                      dsimp only at hwd hres
                      have he3b : (er3 != 0) = true := by simpa using he3
                      refine hwd.mono ?_
                      rintro e w12 ⟨rfl, hrb12, hf12⟩
                      have B12 := alloc_below0 w12 (.cells #[.int .i64 0, .string ⟨#[]⟩, .int .i64 0] 71)
                      have R12 := hid (hrb12.below B12)
                      have X12 := hid (XBox.below ((hf12.same _ X11.out.lt (Ne.symm ne2)).trans X11.out) B12)
                      have F12 := hid ((F11.out.trans hf12).trans (Fr.of_below B12))
                      clear hwd hrb12 hf12 B12 R11 X11 T11 L11 F11
                      have c3 := R12.out.c3
                      have r0 := X12.out.c0; have r1 := X12.out.c1; have r2 := X12.out.c2
                      have z0 := X12.out.f (k := 0); have z1 := X12.out.f (k := 1); have z2 := X12.out.f (k := 2)
                      go_wp2
                      refine bodyPost_ret (results_cell_row rfl _ _ w.heap.size 28 #[.string ⟨#[]⟩, .int .i64 0, .slice none 0 0] (0, 0) _ rfl (X12.out.all (x := ((⟨#[]⟩ : ByteArray), (0 : Int))) _) Try.underlying28 rfl Try.size28) rfl ?_
                      rw [hres]
                      exact ⟨⟨((⟨#[]⟩ : ByteArray), (0 : Int)), none, 0, 0, k2, rfl, (sets_far ne2 _ _ _).trans R12.out⟩, frB_sets F12.out (Nat.le_refl _) _ _ _⟩
              · have h3b : (wk2 != 3) = true := by simpa using h3
                rw [if_neg h3] at hres
                dsimp only at hres
                go_wp2
                refine bodyPost_ret (results_cell_row rfl _ _ w.heap.size 28 #[.string ⟨#[]⟩, .int .i64 fi, .slice none 0 0] (0, 0) _ rfl (X5.out.all (x := ((⟨#[]⟩ : ByteArray), fi)) _) Try.underlying28 rfl Try.size28) rfl ?_
                rw [← hres]
                exact ⟨⟨((⟨#[]⟩ : ByteArray), fi), .nil, none, 0, rfl, rfl, ⟨⟨show (⟨#[]⟩ : ByteArray).size ≤ maxLen by decide, Nat.le_refl _, by simp, by simp [lenF]⟩, .inl ⟨rfl, rfl⟩⟩, (sets_far ne2 _ _ _).trans R5.out⟩, frB_sets F5.out (Nat.le_refl _) _ _ _⟩
            · rw [if_neg he2] at hpk hres
              unfold Wd.val noWd at hpk
              dsimp only at hpk hres
              have he2b : (er2 != 0) = true := by simpa using he2
              refine hpk.mono ?_
              rintro e w5 ⟨rfl, hrb5, hf5⟩
              have B5 := alloc_below0 w5 (.cells #[.int .i64 0, .string ⟨#[]⟩, .int .i64 0] 71)
              have R5 := hid (hrb5.below B5)
              have X5 := hid (XBox.below ((hf5.same _ X4.out.lt (Ne.symm ne2)).trans X4.out) B5)
              have T5 := hid (XBox.below ((hf5.same _ T4.out.lt (by omega)).trans T4.out) B5)
              have F5 := hid ((F4.out.trans hf5).trans (Fr.of_below B5))
              have hw5 := hf5.low.size
              clear hpk hrb5 hf5 B5 R4 X4 T4 F4
              have c3 := R5.out.c3
              have t0 := T5.out.c0; have t1 := T5.out.c1; have t2 := T5.out.c2
              have r0 := X5.out.c0; have r1 := X5.out.c1; have r2 := X5.out.c2
              have z0 := X5.out.f (k := 0); have z1 := X5.out.f (k := 1); have z2 := X5.out.f (k := 2)
              go_wp2
              refine bodyPost_ret (results_cell_row rfl _ _ w.heap.size 28 #[.string ⟨#[]⟩, .int .i64 fi, .slice none 0 0] (0, 0) _ rfl (X5.out.all (x := ((⟨#[]⟩ : ByteArray), fi)) _) Try.underlying28 rfl Try.size28) rfl ?_
              rw [← hres]
              exact ⟨⟨((⟨#[]⟩ : ByteArray), fi), none, 0, 0, te, rfl, (sets_far ne2 _ _ _).trans R5.out⟩, frB_sets F5.out (Nat.le_refl _) _ _ _⟩
        · rw [if_neg h1] at hres
          have h1b : (wk != 1) = true := by simpa using h1
          go_wp2_with fail
          generalize w1.alloc (.cells #[.int .i64 wk, .string wt, .int .i64 wp] 71) = V1 at R1 X1 W1 F1 hv1 y0 y1 y2 c0 c1 c3 ⊢
          refine (HFL.out V1 te 52 wp R1.out).mono ?_
          rintro e w2 ⟨rfl, hrb2, hf2⟩
          have X2 : Hid (XBox w2 w.heap.size (⟨#[]⟩, 0) (.slice none 0 0)) := hid ((hf2.same _ X1.out.lt (Ne.symm ne2)).trans X1.out)
          have R2 := hid hrb2
          have F2 := hid (F1.out.trans hf2)
          clear hrb2 hf2 c0 c1 c3 y0 y1 y2
          have r0 := X2.out.c0; have r1 := X2.out.c1; have r2 := X2.out.c2
          have z0 := X2.out.f (k := 0); have z1 := X2.out.f (k := 1); have z2 := X2.out.f (k := 2)
          go_wp2
          refine bodyPost_ret (results_cell_row rfl _ _ w.heap.size 28 #[.string ⟨#[]⟩, .int .i64 0, .slice none 0 0] (0, 0) _ rfl (X2.out.all (x := ((⟨#[]⟩ : ByteArray), (0 : Int))) _) Try.underlying28 rfl Try.size28) rfl ?_
          rw [← hres]
          exact ⟨⟨((⟨#[]⟩ : ByteArray), (0 : Int)), none, 0, 0, te, rfl, (sets_far ne2 _ _ _).trans R2.out⟩, frB_sets F2.out (Nat.le_refl _) _ _ _⟩
  · rw [if_neg he] at hres hcn
    unfold Wd.val noWd at hcn
    dsimp only at hres hcn
    have HC := hid hcn
    clear hcn hnxt
    have hne : (er != 0) = true := by simpa using he
    go_enter Try.func34, Try.ntmps34
    go_wp2_with fail
    refine HC.out.mono ?_
    rintro e w1 ⟨rfl, hrb, hf1⟩
    have hw1 := hf1.low.size
    rw [World.size_alloc] at hw1
    have B1 := alloc_below0 w1 (.cells #[.int .i64 0, .string ⟨#[]⟩, .int .i64 0] 71)
    have R1 := hid (hrb.below B1)
    have X1 : Hid (XBox (w1.alloc (.cells #[.int .i64 0, .string ⟨#[]⟩, .int .i64 0] 71)) w.heap.size (⟨#[]⟩, 0) (.slice none 0 0)) := hid (XBox.below ((hf1.same _ X0.out.lt (by omega)).trans X0.out) B1)
    have F1 : Hid (FrB B w (w1.alloc (.cells #[.int .i64 0, .string ⟨#[]⟩, .int .i64 0] 71))) := hid ((F0.out.trans hf1).trans (Fr.of_below B1))
    clear hrb hf1 B1 HC HB0 F0 X0
    have c3 := R1.out.c3
    have r0 := X1.out.c0; have r1 := X1.out.c1; have r2 := X1.out.c2
    have z0 := X1.out.f (k := 0); have z1 := X1.out.f (k := 1); have z2 := X1.out.f (k := 2)
    go_wp2
    refine bodyPost_ret (results_cell_row rfl _ _ w.heap.size 28 #[.string ⟨#[]⟩, .int .i64 0, .slice none 0 0] (0, 0) _ rfl (X1.out.all (x := ((⟨#[]⟩ : ByteArray), (0 : Int))) _) Try.underlying28 rfl Try.size28) rfl ?_
    rw [← hres]
    exact ⟨⟨((⟨#[]⟩ : ByteArray), (0 : Int)), none, 0, 0, k, rfl, (sets_far ne2 _ _ _).trans R1.out⟩, frB_sets F1.out (Nat.le_refl _) _ _ _⟩
theorem rterm_all {w0 : World} {B : Nat} {S : Option Addr} {n cap : Nat} {l : List Sym} {s : ByteArray} (hB0 : w0.heap.size ≤ B) (hs : s.size ≤ 800) (hS : SigAt w0 S n l) : ∀ z, RTermOk w0 B S n cap l s z := by
  intro z
  induction z using Nat.strongRecOn with
  | _ z ih => exact rterm_of hB0 hs hS ih
end Go.Proofs.Ytkcbhbkldcebiaa
