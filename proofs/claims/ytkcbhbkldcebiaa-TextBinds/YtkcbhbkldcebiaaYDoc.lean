/- What the document's Term answers: the same as the program's. -/
import Derived.Test.YtkcbhbkldcebiaaYTop
import Derived.Test.YtkcbhbkldcebiaaZRead
namespace Go.Proofs.Ytkcbhbkldcebiaa
open Go.RowKit Go.Deep

set_option maxRecDepth 100000 in
set_option maxHeartbeats 2000000 in
theorem word_err (B : Nat) (sg : Value) (s : ByteArray) (k p : Nat) (er : Int) (w : World) (hB : RfBox w B sg s k er p) (he : er ≠ 0) :
    Calls Try.prog 43 #[.pointer (some ⟨B, 0, none⟩)] w fun e w' => e = .returned (.agg #[.int .i64 0, .string ⟨#[]⟩, .int .i64 ((0 : Nat) : Int)]) ∧ RfBox w' B sg s k er p ∧ FrB B w w' := by
  have hnb : (er != 0) = true := by simpa using he
  have B0 := alloc_below0 w (.cells #[.int .i64 0, .string ⟨#[]⟩, .int .i64 0] 71)
  have R0 := hid (hB.below B0)
  have W0 : Hid (WdBox (w.alloc (.cells #[.int .i64 0, .string ⟨#[]⟩, .int .i64 0] 71)) w.heap.size noWd) := World.alloc_heap_new w _
  have HB := hid B0
  have c3 := R0.out.c3
  have r0 := W0.out.k0; have r1 := W0.out.k1; have r2 := W0.out.k2
  have z0 := W0.out.fz (i := 0); have z1 := W0.out.fz (i := 1); have z2 := W0.out.fz (i := 2)
  clear B0 hB
  go_enter Try.func43, Try.ntmps43
  go_wp2
  refine ret_wd rfl rfl W0.out rfl ?_
  exact ⟨rfl, R0.out, Fr.of_below HB.out⟩
theorem rest_any (B : Nat) (sg : Value) (s : ByteArray) (k p : Nat) (er : Int) (w : World) (hB : RfBox w B sg s k er p) (hs : s.size ≤ maxLen) (hk : er = 0 → k ≤ s.size) :
    Calls Try.prog 35 #[.pointer (some ⟨B, 0, none⟩)] w fun e w' => e = .returned (.tuple #[]) ∧ (∃ k', RfBox w' B sg s k' (restF s k er p).1 (restF s k er p).2) ∧ FrB B w w' := by
  by_cases he : er = 0
  · exact rest_rf B sg s k p er w hB hs (hk he)
  · refine (rest_of B sg s _ _ _ _ _ _ w (word_err B sg s k p er w hB he)).mono ?_
    rintro e w' ⟨rfl, hr, hf⟩
    rw [if_neg (fun h => he h.1), if_neg (fun h => he h.1)] at hr
    refine ⟨rfl, ⟨k, ?_⟩, hf⟩
    unfold restF
    rw [if_neg he]
    exact hr

/-- What is read first. -/
def preR (s : ByteArray) (l : List Sym) : Except (Int × Nat) (Fo × Nat) := if 800 < s.size then .error (55, 0) else rdC s l false 0
/-- The document's reading of a term, from the reader's beginning on. -/
def PreEnd (B : Nat) (sg : Value) (s : ByteArray) (w : World) (res : Except (Int × Nat) (Fo × Nat)) (e : Ending) (w' : World) : Prop :=
  ∃ (x : ByteArray × Int) (a : Option Addr) (n c k' : Nat) (er : Int) (p : Nat), e = .returned (.agg #[.string x.1, .int .i64 x.2, .slice a n c]) ∧ RfBox w' B sg s k' er p ∧ FrB B w w' ∧ ((er ≠ 0 ∧ res = .error (er, p)) ∨ (er = 0 ∧ p = 0 ∧ ∃ m, n = lenF m ∧ OwnTm false (fun q => w.heap.size ≤ q) w' x a c m ∧ res = .ok (.node 0 0 x m .nil, k') ∧ k' ≤ s.size))
theorem rterm_pre {w0 : World} {B : Nat} {S : Option Addr} {n cap : Nat} {l : List Sym} {s : ByteArray} (hB0 : w0.heap.size ≤ B) (hS : SigAt w0 S n l) (w : World) (hB : RfBox w B (.slice S n cap) s 0 (if 800 < s.size then 55 else 0) 0) (hL : Below w0.heap.size w0 w) (hsm : s.size ≤ maxLen) :
    Calls Try.prog 34 #[.pointer (some ⟨B, 0, none⟩)] w fun e w' => PreEnd B (.slice S n cap) s w (preR s l) e w' := by
  unfold preR
  by_cases hs : 800 < s.size
  · rw [if_pos hs] at hB ⊢
    refine (rterm_err B _ s 0 0 55 w hB hsm (Nat.zero_le _) (by decide)).mono ?_
    rintro e w' ⟨rfl, hr, hf⟩
    exact ⟨(⟨#[]⟩, 0), none, 0, 0, 0, 55, 0, rfl, hr, hf, .inl ⟨by decide, rfl⟩⟩
  · rw [if_neg hs] at hB ⊢
    refine (rterm_all (cap := cap) hB0 (by omega) hS s.size 0 0 w (Nat.zero_le _) (Nat.sub_le _ _) hB hL).mono ?_
    rintro e w' ht
    unfold RTermEnd at ht
    cases hr : rdC s l false 0 with
    | error q =>
      rw [hr] at ht
      obtain ⟨⟨x, a, n', c, k', rfl, hb⟩, hf⟩ := ht
      exact ⟨x, a, n', c, k', q.1, q.2, rfl, hb, hf, .inl ⟨rdC_err s.size false 0 q (Nat.zero_le _) (Nat.sub_le _ _) hr, rfl⟩⟩
    | ok q =>
      rw [hr] at ht
      obtain ⟨F, k'⟩ := q
      obtain ⟨⟨x, m, a, c, rfl, rfl, ho, hb⟩, hf⟩ := ht
      exact ⟨x, a, _, c, k', 0, 0, rfl, hb, hf, .inr ⟨rfl, rfl, m, rfl, ho, rfl, (rdC_to (Nat.zero_le _) hr).2⟩⟩
theorem end_err {s : ByteArray} {k : Nat} {q : Int × Nat} (h : endR s k = .error q) : q.1 ≠ 0 := by
  unfold endR at h
  cases hl : lookP s k with
  | error e => rw [hl] at h; cases h; exact look_err hl
  | ok r =>
    rw [hl] at h
    dsimp only at h
    split at h
    · cases h
    · cases h
      show (54 : Int) ≠ 0
      decide
theorem xbox_drew {W : World} {B : Nat} {x : ByteArray × Int} {v : Value} (h : XBox W B x v) : XBox W.drew B x v := h
theorem full_pre (s : ByteArray) (l : List Sym) : fullR s l = (match preR s l with
    | .error e => .error e
    | .ok (.nil, _) => .error (0, 0)
    | .ok (.node _ _ x m _, k) => match endR s k with
      | .error e => .error e
      | .ok _ => if chk l x m = 0 then .ok (x, m) else .error (chk l x m, 0)) := by
  unfold fullR termR preR
  by_cases hs : 800 < s.size
  · rw [if_pos hs, if_pos hs]
  · rw [if_neg hs, if_neg hs]
    show (match (match rdC s l false 0 with | .error e => .error e | .ok (.nil, _) => .error (0, 0) | .ok (.node _ _ x m _, k) => match endR s k with | .error e => .error e | .ok _ => .ok (x, m) : Except (Int × Nat) Tn) with | .error e => (Except.error e : Except (Int × Nat) Tn) | .ok t => if chk l t.1 t.2 = 0 then Except.ok t else Except.error (chk l t.1 t.2, 0)) = _
    cases rdC s l false 0 with
    | error e => rfl
    | ok q =>
      obtain ⟨F, k⟩ := q
      cases F with
      | nil => rfl
      | node h sz x m r =>
        dsimp only
        cases endR s k with
        | error e => rfl
        | ok _ => rfl

set_option maxRecDepth 100000 in
set_option maxHeartbeats 4000000 in
/-- The document's Term of a text. -/
theorem rdoc_any (S : Option Addr) (n cap : Nat) (l : List Sym) (s : ByteArray) (w : World) (hS : SigAt w S n l) (hsm : s.size ≤ maxLen) :
    Calls Try.prog 11 #[.slice S n cap, .string s] w fun e w' => FullEnd w (fullR s l) e w' := by
  have B0 := alloc_below0 w (.cells #[.string ⟨#[]⟩, .int .i64 0, .slice none 0 0] 28)
  have X0 : Hid (XBox (w.alloc (.cells #[.string ⟨#[]⟩, .int .i64 0, .slice none 0 0] 28)) w.heap.size (⟨#[]⟩, 0) (.slice none 0 0)) := World.alloc_heap_new w _
  have HB := hid B0
  have HS := hid hS
  obtain ⟨res, hres⟩ : ∃ res, fullR s l = res := ⟨_, rfl⟩
  have HRS := hid hres
  rw [hres]
  clear hres B0 hS
  go_enter Try.func11, Try.ntmps11
  go_wp2_with fail
  generalize w.alloc (.cells #[.string ⟨#[]⟩, .int .i64 0, .slice none 0 0] 28) = V0 at X0 HB ⊢
  refine (reader_rf S n cap s V0).mono ?_
  rintro e w1 ⟨rfl, hr1, hb1⟩
  have L1 := hid (HB.out.trans (hb1.mono HB.out.size))
  have X1 := hid (X0.out.below hb1)
  have hV0 : w.heap.size < V0.heap.size := X0.out.lt
  have hc := rterm_pre (w0 := w) (l := l) (by omega) HS.out w1 hr1 L1.out hsm
  have HC := hid hc
  have hB1 := hr1.lt
  clear hc hr1 hb1 X0
  go_wp2_with fail
  refine HC.out.mono ?_
  rintro e w2 ⟨x, ta, tn, tc, k2, er, p, rfl, hr2, hf2, hor⟩
  have hz2 := hf2.low.size
  have B2 := alloc_below0 w2 (.cells #[.string x.1, .int .i64 x.2, .slice ta tn tc] 28)
  have R2 := hr2.below B2
  have T2 : XBox (w2.alloc (.cells #[.string x.1, .int .i64 x.2, .slice ta tn tc] 28)) w2.heap.size x (.slice ta tn tc) := World.alloc_heap_new w2 _
  have X2' : XBox w2 w.heap.size (⟨#[]⟩, 0) (.slice none 0 0) := (hf2.same w.heap.size (by omega) (by omega)).trans X1.out
  have X2 := X2'.below B2
  have F2 := (hf2.trans (Fr.of_below B2))
  have hk2 : er = 0 → k2 ≤ s.size := fun h => by
    rcases hor with h1 | h1
    · exact absurd h h1.1
    · obtain ⟨_, _, m, _, _, _, h⟩ := h1; exact h
  have hc3 := rest_any V0.heap.size (.slice S n cap) s k2 p er _ R2 hsm hk2
  have HC3 := hid hc3
  have HT2 := hid T2; have HX2 := hid X2; have HF2 := hid F2
  have OR2 : Hid ((er ≠ 0 ∧ preR s l = .error (er, p)) ∨ (er = 0 ∧ p = 0 ∧ ∃ m, tn = lenF m ∧ OwnTm false (fun q => w1.heap.size ≤ q) (w2.alloc (.cells #[.string x.1, .int .i64 x.2, .slice ta tn tc] 28)) x ta tc m ∧ preR s l = .ok (.node 0 0 x m .nil, k2) ∧ k2 ≤ s.size)) := by
    rcases hor with h | ⟨h1, h0, m, h2, h3, h4, h5⟩
    · exact .inl h
    · exact .inr ⟨h1, h0, m, h2, h3.below B2, h4, h5⟩
  clear hc3 T2 X2 X2' F2 R2 hr2 hf2 hor B2 hk2 HC X1
  go_wp2_with fail
  generalize w2.alloc (.cells #[.string x.1, .int .i64 x.2, .slice ta tn tc] 28) = V2 at HC3 HT2 HX2 HF2 OR2 ⊢
  refine HC3.out.mono ?_
  rintro e w3 ⟨rfl, ⟨k3, hr3⟩, hf3⟩
  obtain ⟨e2, p2, he2⟩ : ∃ e2 p2, restF s k2 er p = (e2, p2) := ⟨_, _, rfl⟩
  rw [he2] at hr3
  dsimp only at hr3
  have hz3 := hf3.low.size
  have hz2' : w2.heap.size < V2.heap.size := HT2.out.lt
  have FIN : Hid ((e2 ≠ 0 ∧ res = .error (e2, p2)) ∨ (e2 = 0 ∧ p2 = 0 ∧ ∃ m, tn = lenF m ∧ OwnTm false (fun q => w1.heap.size ≤ q) w3 x ta tc m ∧ res = if chk l x m = 0 then .ok (x, m) else .error (chk l x m, 0))) := by
    have h := HRS.out
    rw [full_pre] at h
    unfold restF at he2
    rcases OR2.out with ⟨h1, h2⟩ | ⟨h1, h0, m, h2, h3, h4, h5⟩
    · rw [if_neg h1] at he2
      cases he2
      rw [h2] at h
      exact .inl ⟨h1, h.symm⟩
    · rw [if_pos h1] at he2
      rw [h4] at h
      dsimp only at h
      cases hen : endR s k2 with
      | error q =>
        rw [hen] at he2 h
        dsimp only at he2 h
        subst he2
        exact .inl ⟨end_err hen, h.symm⟩
      | ok q =>
        rw [hen] at he2 h
        dsimp only at he2 h
        cases he2
        exact .inr ⟨rfl, h0, m, h2, h3.keep (fun q hq hlt => hf3.same q hlt (by omega)), h.symm⟩
  have T3' : XBox w3 w2.heap.size x (.slice ta tn tc) := (hf3.same _ hz2' (by omega)).trans HT2.out
  have X3' : XBox w3 w.heap.size (⟨#[]⟩, 0) (.slice none 0 0) := (hf3.same _ HX2.out.lt (by omega)).trans HX2.out
  have T3 := hid T3'; have X3 := hid X3'
  have L3 : Hid (Below w.heap.size w w3) := hid (low_fr (low_fr L1.out HF2.out (by omega)) hf3 (by omega))
  have R3 := hid hr3
  clear hr3 hf3 T3' X3' he2 HC3 HT2 HX2 HF2 OR2 HRS
  have c3 := R3.out.c3; have c4 := R3.out.c4
  have r0 := X3.out.c0; have r1 := X3.out.c1; have r2 := X3.out.c2
  have z0 := X3.out.f (k := 0); have z1 := X3.out.f (k := 1); have z2 := X3.out.f (k := 2)
  by_cases h20 : e2 = 0
  · subst h20
    obtain ⟨_, h0, m, rfl, ho, hres⟩ := FIN.out.resolve_left (fun h => h.1 rfl)
    subst h0
    have hc := checks_rf V0.heap.size S n cap l s k3 0 x m ta tc w3 R3.out (HS.out.below L3.out) ho.tm
    have HC := hid hc
    have HO := hid ho
    have HRS := hid hres
    have u0 := T3.out.c0; have u1 := T3.out.c1; have u2 := T3.out.c2
    clear hc ho hres FIN
    go_wp2_with fail
    refine HC.out.mono ?_
    rintro e w4 ⟨rfl, hr4, hf4⟩
    have hz4 := hf4.low.size
    have T4' : XBox w4 w2.heap.size x (.slice ta (lenF m) tc) := (hf4.same _ T3.out.lt (by omega)).trans T3.out
    have X4' : XBox w4 w.heap.size (⟨#[]⟩, 0) (.slice none 0 0) := (hf4.same _ X3.out.lt (by omega)).trans X3.out
    have L4 : Hid (Below w.heap.size w w4) := hid (low_fr L3.out hf4 (by omega))
    have O4 := hid (HO.out.keep (fun q hq hlt => hf4.same q hlt (by omega)))
    have R4 := hid hr4; have X4 := hid X4'
    have d3 := hr4.c3; have d4 := hr4.c4
    have s0 := X4'.c0; have s1 := X4'.c1; have s2 := X4'.c2
    have y0 := X4'.f (k := 0); have y1 := X4'.f (k := 1); have y2 := X4'.f (k := 2)
    have v0 := T4'.c0; have v1 := T4'.c1; have v2 := T4'.c2
    clear hr4 hf4 T4' X4' c3 c4 r0 r1 r2 z0 z1 z2 u0 u1 u2 HC HO
    by_cases hch : chk l x m = 0
    · rw [if_pos hch] at d4
      have hne : (chk l x m == 0) = true := by simpa using hch
      have hnb : (chk l x m != 0) = false := by simpa using hch
      go_wp2
      refine ret_tm3 rfl rfl (X4.out.all (x := x) _) rfl ?_
      have hres := HRS.out
      rw [if_pos hch] at hres
      rw [hres]
      exact ⟨⟨ta, tc, rfl, (O4.out.keep (fun q hq _ => sets_far (by omega) _ _ _)).mono (fun q _ hq => by omega)⟩, sets_below L4.out (Nat.le_refl _) _ _ _⟩
    · rw [if_neg hch] at d4
      have hnb : (chk l x m != 0) = true := by simpa using hch
      have hres := HRS.out
      rw [if_neg hch] at hres
      subst hres
      go_wp2
      go_region
      all_goals
        go_wp2
        refine ret_tm3 rfl rfl (xbox_drew (X4.out.all (x := ((⟨#[]⟩ : ByteArray), (0 : Int))) _)) rfl ?_
        exact ⟨rfl, (sets_below L4.out (Nat.le_refl _) _ _ _).drew⟩
  · obtain ⟨_, hres⟩ := FIN.out.resolve_right (fun h => h20 h.1)
    subst hres
    have hnb : (e2 != 0) = true := by simpa using h20
    have hnc : (e2 == 0) = false := by simpa using h20
    clear FIN
    go_wp2
    go_region
    all_goals
      go_wp2
      refine ret_tm3 rfl rfl (xbox_drew (X3.out.all (x := ((⟨#[]⟩ : ByteArray), (0 : Int))) _)) rfl ?_
      exact ⟨rfl, (sets_below L3.out (Nat.le_refl _) _ _ _).drew⟩
end Go.Proofs.Ytkcbhbkldcebiaa
