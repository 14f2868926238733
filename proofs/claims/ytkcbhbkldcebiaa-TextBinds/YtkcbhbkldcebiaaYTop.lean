/- What the document's reader, rest, checks and want do; its term behind an error. -/
import Derived.Test.YtkcbhbkldcebiaaYTerm
import Derived.Test.YtkcbhbkldcebiaaTRChkB
namespace Go.Proofs.Ytkcbhbkldcebiaa
open Go.RowKit Go.Deep

theorem RfBox.kept {W W' : World} {B : Nat} {sg : Value} {s : ByteArray} {k p : Nat} {er : Int} (h : RfBox W B sg s k er p) (hb : W'.heap[B]? = W.heap[B]?) : RfBox W' B sg s k er p := hb.trans h
set_option maxRecDepth 100000 in
set_option maxHeartbeats 2000000 in
theorem reader_rf (S : Option Addr) (n cap : Nat) (s : ByteArray) (w : World) :
    Calls Try.prog 33 #[.slice S n cap, .string s] w fun e w' => e = .returned (.pointer (some ⟨w.heap.size, 0, none⟩)) ∧ RfBox w' w.heap.size (.slice S n cap) s 0 (if 800 < s.size then 55 else 0) 0 ∧ Below w.heap.size w w' := by
  have R0 : Hid (RfBox (w.alloc (.cells #[.slice S n cap, .string s, .int .i64 0, .int .i64 0, .int .i64 0] 64)) w.heap.size (.slice S n cap) s 0 0 0) := World.alloc_heap_new w _
  have B0 := hid (alloc_below0 w (.cells #[.slice S n cap, .string s, .int .i64 0, .int .i64 0, .int .i64 0] 64))
  by_cases hs : 800 < s.size
  · rw [if_pos hs]
    have hs' : (800 : Int) < s.size := by omega
    go_enter Try.func33, Try.ntmps33
    go_wp2_with fail
    refine (fails_rf w.heap.size (.slice S n cap) s 0 0 0 55 0 _ R0.out).mono ?_
    rintro e w1 ⟨rfl, hr, hf⟩
    rw [if_pos rfl, if_pos rfl] at hr
    have HR := hid hr
    have HL : Hid (Below w.heap.size w w1) := hid (B0.out.trans (hf.below (fun _ hk => hk ▸ Nat.le_refl _) (by rw [World.size_alloc]; omega)))
    clear hr hf
    go_wp2
    go_ret
    exact ⟨rfl, HR.out, HL.out⟩
  · rw [if_neg hs]
    have hs' : ¬ (800 : Int) < s.size := by omega
    go_enter Try.func33, Try.ntmps33
    go_wp2
    go_ret
    exact ⟨rfl, R0.out, B0.out⟩

set_option maxRecDepth 100000 in
set_option maxHeartbeats 2000000 in
/-- Behind an error nothing is read. -/
theorem rterm_err (B : Nat) (sg : Value) (s : ByteArray) (k p : Nat) (er : Int) (w : World) (hB : RfBox w B sg s k er p) (hs : s.size ≤ maxLen) (hk : k ≤ s.size) (he : er ≠ 0) :
    Calls Try.prog 34 #[.pointer (some ⟨B, 0, none⟩)] w fun e w' => e = .returned (.agg #[.string ⟨#[]⟩, .int .i64 0, .slice none 0 0]) ∧ RfBox w' B sg s k er p ∧ FrB B w w' := by
  have hne : (er == 0) = false := by simpa using he
  have hnb : (er != 0) = true := by simpa using he
  have B0 := alloc_below0 w (.cells #[.string ⟨#[]⟩, .int .i64 0, .slice none 0 0] 28)
  have HB0 := hid (hB.below B0)
  have F0 : Hid (FrB B w (w.alloc (.cells #[.string ⟨#[]⟩, .int .i64 0, .slice none 0 0] 28))) := hid (Fr.of_below B0)
  have X0 : Hid (XBox (w.alloc (.cells #[.string ⟨#[]⟩, .int .i64 0, .slice none 0 0] 28)) w.heap.size (⟨#[]⟩, 0) (.slice none 0 0)) := World.alloc_heap_new w _
  have hc := word_rf B sg s k p er _ HB0.out hs hk
  unfold wordF at hc
  rw [if_neg he] at hc
  unfold Wd.val noWd at hc
  dsimp only at hc
  have HC := hid hc
  have ne2 : B ≠ w.heap.size := by have := hB.lt; omega
  clear hc B0 hB
  go_enter Try.func34, Try.ntmps34
  go_wp2_with fail
  refine HC.out.mono ?_
  rintro e w1 ⟨rfl, hrb, hf1⟩
  have hw1 := hf1.low.size
  rw [World.size_alloc] at hw1
  have B1 := alloc_below0 w1 (.cells #[.int .i64 0, .string ⟨#[]⟩, .int .i64 0] 71)
  have R1 := hid (hrb.below B1)
  have X1 : Hid (XBox (w1.alloc (.cells #[.int .i64 0, .string ⟨#[]⟩, .int .i64 0] 71)) w.heap.size (⟨#[]⟩, 0) (.slice none 0 0)) := hid (XBox.below ((hf1.same _ X0.out.lt (by omega)).trans X0.out) B1)
  have F1 : Hid (FrB B w (w1.alloc (.cells #[.int .i64 0, .string ⟨#[]⟩, .int .i64 0] 71))) := hid ((F0.out.trans hf1).trans (Fr.of_below B1))
  clear hrb hf1 B1 HC HB0 F0 X0
  have c3 := R1.out.c3
  have r0 := X1.out.c0; have r1 := X1.out.c1; have r2 := X1.out.c2
  have z0 := X1.out.f (k := 0); have z1 := X1.out.f (k := 1); have z2 := X1.out.f (k := 2)
  go_wp2
  refine bodyPost_ret (results_cell_row rfl _ _ w.heap.size 28 #[.string ⟨#[]⟩, .int .i64 0, .slice none 0 0] (0, 0) _ rfl (X1.out.all (x := ((⟨#[]⟩ : ByteArray), (0 : Int))) _) Try.underlying28 rfl Try.size28) rfl ?_
  exact ⟨rfl, (sets_far ne2 _ _ _).trans R1.out, frB_sets F1.out (Nat.le_refl _) _ _ _⟩

set_option maxRecDepth 100000 in
set_option maxHeartbeats 2000000 in
theorem rest_of (B : Nat) (sg : Value) (s : ByteArray) (wt : ByteArray) (wk : Int) (wp k' p' : Nat) (er' : Int) (w : World)
    (hc : Calls Try.prog 43 #[.pointer (some ⟨B, 0, none⟩)] w fun e w' => e = .returned (.agg #[.int .i64 wk, .string wt, .int .i64 wp]) ∧ RfBox w' B sg s k' er' p' ∧ FrB B w w') :
    Calls Try.prog 35 #[.pointer (some ⟨B, 0, none⟩)] w fun e w' => e = .returned (.tuple #[]) ∧ RfBox w' B sg s k' (if er' = 0 ∧ wk ≠ 0 then 54 else er') (if er' = 0 ∧ wk ≠ 0 then wp else p') ∧ FrB B w w' := by
  have HC := hid hc
  clear hc
  obtain ⟨e2, he2⟩ : ∃ X, (if er' = 0 ∧ wk ≠ 0 then (54 : Int) else er') = X := ⟨_, rfl⟩
  obtain ⟨p2, hp2⟩ : ∃ X, (if er' = 0 ∧ wk ≠ 0 then wp else p') = X := ⟨_, rfl⟩
  rw [he2, hp2]
  have HE := hid he2; have HP := hid hp2
  clear he2 hp2
  go_enter Try.func35, Try.ntmps35
  go_wp2_with fail
  refine HC.out.mono ?_
  rintro e w1 ⟨rfl, hrb, hf1⟩
  have B1 := alloc_below0 w1 (.cells #[.int .i64 wk, .string wt, .int .i64 wp] 71)
  have R1 := hid (hrb.below B1)
  have W1 : Hid (WdBox (w1.alloc (.cells #[.int .i64 wk, .string wt, .int .i64 wp] 71)) w1.heap.size ⟨wk, wt, wp⟩) := World.alloc_heap_new w1 _
  have F1 : Hid (FrB B w (w1.alloc (.cells #[.int .i64 wk, .string wt, .int .i64 wp] 71))) := hid (hf1.trans (Fr.of_below B1))
  clear hrb hf1 B1 HC
  have c3 := R1.out.c3
  have y0 := W1.out.k0; have y2 := W1.out.k2
  by_cases he : er' = 0
  · subst he
    by_cases hk0 : wk = 0
    · subst hk0
      have he2 := HE.out; have hp2 := HP.out
      rw [if_neg (fun h => h.2 rfl)] at he2 hp2
      subst he2 hp2
      go_wp2
      go_end0
      exact ⟨rfl, R1.out, F1.out⟩
    · have hkb : (wk != 0) = true := by simpa using hk0
      have he2 := HE.out; have hp2 := HP.out
      rw [if_pos ⟨rfl, hk0⟩] at he2 hp2
      subst he2 hp2
      go_wp2_with fail
      generalize w1.alloc (.cells #[.int .i64 wk, .string wt, .int .i64 wp] 71) = V1 at R1 W1 F1 c3 y0 y2 ⊢
      refine (fails_rf B sg s k' p' 0 54 wp V1 R1.out).mono ?_
      rintro e w2 ⟨rfl, hrb2, hf2⟩
      rw [if_pos rfl, if_pos rfl] at hrb2
      have R2 := hid hrb2
      have F2 := hid (F1.out.trans hf2)
      clear hrb2 hf2
      go_wp2
      go_end0
      exact ⟨rfl, R2.out, F2.out⟩
  · have hne : (er' == 0) = false := by simpa using he
    have he2 := HE.out; have hp2 := HP.out
    rw [if_neg (fun h => he h.1)] at he2 hp2
    subst he2 hp2
    go_wp2
    go_end0
    exact ⟨rfl, R1.out, F1.out⟩
/-- The error behind rest. -/
def restF (s : ByteArray) (k : Nat) (er : Int) (p : Nat) : Int × Nat := if er = 0 then (match endR s k with | .error q => q | .ok _ => (0, p)) else (er, p)
theorem rest_rf (B : Nat) (sg : Value) (s : ByteArray) (k p : Nat) (er : Int) (w : World) (hB : RfBox w B sg s k er p) (hs : s.size ≤ maxLen) (hk : k ≤ s.size) :
    Calls Try.prog 35 #[.pointer (some ⟨B, 0, none⟩)] w fun e w' => e = .returned (.tuple #[]) ∧ (∃ k', RfBox w' B sg s k' (restF s k er p).1 (restF s k er p).2) ∧ FrB B w w' := by
  have hc := word_rf B sg s k p er w hB hs hk
  obtain ⟨o, ho⟩ : ∃ o, restF s k er p = o := ⟨_, rfl⟩
  rw [ho]
  unfold restF endR lookP at ho
  unfold wordF at hc
  obtain ⟨r, hr⟩ : ∃ r, nx s k = r := ⟨_, rfl⟩
  rw [hr] at ho hc
  obtain ⟨⟨wk, wt, wp⟩, te, e0⟩ := r
  dsimp only at ho hc
  by_cases he : er = 0
  · rw [if_pos he] at ho hc
    by_cases h0 : e0 = 0
    · rw [if_pos h0] at ho hc
      dsimp only at ho hc
      refine (rest_of B sg s _ _ _ _ _ _ w hc).mono ?_
      rintro e w' ⟨rfl, hr, hf⟩
      refine ⟨rfl, ⟨(if wk = 0 then k else te), ?_⟩, hf⟩
      dsimp only at hr
      by_cases hk0 : wk = 0
      · rw [if_pos hk0] at ho hr ⊢
        rw [if_neg (fun h => h.2 hk0), if_neg (fun h => h.2 hk0)] at hr
        rw [← ho]
        exact hr
      · rw [if_neg hk0] at ho hr ⊢
        rw [if_pos ⟨rfl, hk0⟩, if_pos ⟨rfl, hk0⟩] at hr
        rw [← ho]
        exact hr
    · rw [if_neg h0] at ho hc
      dsimp only at ho hc
      refine (rest_of B sg s _ _ _ _ _ _ w hc).mono ?_
      rintro e w' ⟨rfl, hr, hf⟩
      refine ⟨rfl, ⟨k, ?_⟩, hf⟩
      rw [if_neg (fun h => h0 h.1), if_neg (fun h => h0 h.1)] at hr
      rw [← ho]
      exact hr
  · rw [if_neg he] at ho hc
    dsimp only at ho hc
    refine (rest_of B sg s _ _ _ _ _ _ w hc).mono ?_
    rintro e w' ⟨rfl, hr, hf⟩
    refine ⟨rfl, ⟨k, ?_⟩, hf⟩
    rw [if_neg (fun h => he h.1), if_neg (fun h => he h.1)] at hr
    rw [← ho]
    exact hr

set_option maxRecDepth 100000 in
set_option maxHeartbeats 2000000 in
theorem checks_rf (B : Nat) (S : Option Addr) (n cap : Nat) (l : List Sym) (s : ByteArray) (k p : Nat) (x : ByteArray × Int) (m : Fo) (a : Option Addr) (c : Nat) (w : World) (hB : RfBox w B (.slice S n cap) s k 0 p) (hS : SigAt w S n l) (hT : TmAt w x a c m) :
    Calls Try.prog 36 #[.pointer (some ⟨B, 0, none⟩), .agg #[.string x.1, .int .i64 x.2, .slice a (lenF m) c]] w fun e w' => e = .returned (.tuple #[]) ∧ RfBox w' B (.slice S n cap) s k (chk l x m) (if chk l x m = 0 then p else 0) ∧ FrB B w w' := by
  have B0 := alloc_below0 w (.cells #[.string x.1, .int .i64 x.2, .slice a (lenF m) c] 28)
  have X0 : Hid (XBox (w.alloc (.cells #[.string x.1, .int .i64 x.2, .slice a (lenF m) c] 28)) w.heap.size x (.slice a (lenF m) c)) := World.alloc_heap_new w _
  have R0 := hid (hB.below B0)
  have HL := hid B0
  have HN : Hid (∀ W, Below (w.alloc (.cells #[.string x.1, .int .i64 x.2, .slice a (lenF m) c] 28)).heap.size (w.alloc (.cells #[.string x.1, .int .i64 x.2, .slice a (lenF m) c] 28)) W → Calls Try.prog 28 #[.slice S n cap, .agg #[.string x.1, .int .i64 x.2, .slice a (lenF m) c]] W fun e w' => e = .returned (.int .i64 (chk l x m)) ∧ Below W.heap.size W w') := hid fun W hW => rtcheck_any l S n cap x m a c W ((hS.below B0).below hW) ((hT.below B0).below hW)
  obtain ⟨ce, hce⟩ : ∃ ce, chk l x m = ce := ⟨_, rfl⟩
  obtain ⟨p2, hp2⟩ : ∃ X, (if chk l x m = 0 then p else 0) = X := ⟨_, rfl⟩
  rw [hp2]
  rw [hce] at HN hp2 ⊢
  have HP := hid hp2
  clear B0 hB hS hT hce hp2
  go_enter Try.func36, Try.ntmps36
  go_upto_region 1 with fail
  generalize w.alloc (.cells #[.string x.1, .int .i64 x.2, .slice a (lenF m) c] 28) = V0 at R0 HL X0 HN ⊢
  have hne := later_some V0
  have d0 := later_cell R0.out.c0
  have d1 := later_cell X0.out.c0
  have d2 := later_cell X0.out.c1
  have d3 := later_cell X0.out.c2
  refine wp_region_later (by kernel_rfl) (by kernel_rfl) ?_
  repeat (go_big_quiet_step (first | (go_at_call 28; with_reducible refine calls_later (HN.out _ ?_); exact Later.below _) | fail))
  refine wpQuiet_nil ?_
  intro _ hw'
  obtain ⟨b3, hw''⟩ := hw'
  subst hw''
  clear d0 d1 d2 d3 hne
  have RB := hid (R0.out.below b3.below)
  have FB : Hid (FrB B w b3.now) := hid (Fr.of_below (HL.out.trans (b3.below.mono HL.out.size)))
  by_cases hc0 : ce = 0
  · subst hc0
    have hp2 := HP.out
    rw [if_pos rfl] at hp2
    subst hp2
    go_wp2
    go_end0
    exact ⟨rfl, RB.out, FB.out⟩
  · have hcb : (ce != 0) = true := by simpa using hc0
    have hp2 := HP.out
    rw [if_neg hc0] at hp2
    subst hp2
    go_wp2_with fail
    refine (fails_rf B _ s k p 0 ce 0 _ RB.out).mono ?_
    rintro e w2 ⟨rfl, hrb2, hf2⟩
    rw [if_pos rfl, if_pos rfl] at hrb2
    have R2 := hid hrb2
    have F2 := hid (FB.out.trans hf2)
    clear hrb2 hf2
    go_wp2
    go_end0
    exact ⟨rfl, R2.out, F2.out⟩
end Go.Proofs.Ytkcbhbkldcebiaa
