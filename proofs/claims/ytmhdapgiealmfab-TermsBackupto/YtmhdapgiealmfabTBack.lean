/- The walk of TermsBack. -/
import Derived.Test.YtmhdapgiealmfabTHead
import Derived.Test.YtmhdapgiealmfabTPut
import Derived.Test.YtmhdapgiealmfabTAll
import Derived.Test.YtmhdapgiealmfabTSpoil
import Derived.Test.YtmhdapgiealmfabTBackP
namespace Go.Proofs.Ytmhdapgiealmfab
open Go.RowKit Go.Shelf Go.Deep

attribute [local go_sem] Oper.semAt_some

/-- The two terms that came in, in their boxes. -/
structure Two (w : World) (t u : Tn) (a ua : Option Addr) (c uc : Nat) (W : World) : Prop where
  low : Below w.heap.size w W
  t : TBox W w.heap.size t.1 a (lenF t.2) c
  u : TBox W (w.heap.size + 1) u.1 ua (lenF u.2) uc
theorem Two.new (w : World) (t u : Tn) (a ua : Option Addr) (c uc : Nat) : Two w t u a ua c uc ((w.alloc (.cells #[.string t.1.1, .int .i64 t.1.2, .slice a (lenF t.2) c] 24)).alloc (.cells #[.string u.1.1, .int .i64 u.1.2, .slice ua (lenF u.2) uc] 24)) := by
  refine ⟨((Below.refl _ w).alloc (Nat.le_refl _) _).alloc (by simp) _, (TBox.new w t.1 a (lenF t.2) c).below ((Below.refl _ _).alloc (Nat.le_refl _) _), ?_⟩
  have := TBox.new (w.alloc (.cells #[.string t.1.1, .int .i64 t.1.2, .slice a (lenF t.2) c] 24)) u.1 ua (lenF u.2) uc
  rwa [World.size_alloc] at this
theorem Two.below {w : World} {t u : Tn} {a ua : Option Addr} {c uc : Nat} {W W' : World} (h : Two w t u a ua c uc W) (hb : Below W.heap.size W W') : Two w t u a ua c uc W' := ⟨h.low.trans (hb.mono h.low.size), h.t.below hb, h.u.below hb⟩
/-- An answer in its box. -/
structure Said (W : World) (B : Nat) (x : Tn) (a : Option Addr) (c : Nat) : Prop where
  at_ : TmAt W x.1 a c x.2
  box : TBox W B x.1 a (lenF x.2) c
theorem Said.below {W W' : World} {B : Nat} {x : Tn} {a : Option Addr} {c : Nat} (h : Said W B x a c) (hb : Below W.heap.size W W') : Said W' B x a c := ⟨h.at_.below hb, h.box.below hb⟩
theorem Said.new {W : World} {x : Tn} {a : Option Addr} {c : Nat} (h : TmAt W x.1 a c x.2) : Said (W.alloc (.cells #[.string x.1.1, .int .i64 x.1.2, .slice a (lenF x.2) c] 24)) W.heap.size x a c := ⟨h.below ((Below.refl _ _).alloc (Nat.le_refl _) _), TBox.new _ _ _ _ _⟩

theorem KpA.set {b B : Nat} {e : El} {W : World} {v : Value} (hB : Boxed W B 3 v) (hlt : B < b) (u : Value) : KpA b e W (W.setCell ⟨B, 0, none⟩ u) :=
  ⟨(Below.refl _ _).setCell (p := ⟨B, 0, none⟩) (Nat.zero_le _) u, fun k cs t fr hk ht => by
    refine (Below.heap_setCell W ⟨B, 0, none⟩ u k (fun e' => ?_)).trans hk
    have e'' : k = B := e'
    subst e''
    rw [show W.heap[k]? = _ from hB] at hk
    cases hk
    rcases ht with h | h | h | h | ⟨_, h, _⟩
    · cases h
    · cases h
    · cases h
    · cases h
    · omega⟩

set_option maxRecDepth 100000 in
set_option maxHeartbeats 1000000 in
theorem termsBack_walk (ps : List Int) (t u : Tn) (a ua : Option Addr) (c uc : Nat) (pa : Option Addr) (pn pc : Nat) (w : World) (hT : TmAt w t.1 a c t.2) (hU : TmAt w u.1 ua uc u.2) (hP : IntsAt w pa pn ps) (hpn : pn ≤ 9223372036854775807) (hbig : nodesF t.2 + 1 ≤ 1048576) (hbig2 : nodesF u.2 + 1 ≤ 1048576) :
    Calls Try.prog 3 #[.agg #[.string t.1.1, .int .i64 t.1.2, .slice a (lenF t.2) c], .slice pa pn pc, .agg #[.string u.1.1, .int .i64 u.1.2, .slice ua (lenF u.2) uc]] w fun e w' => e = .returned (.bool true) ∧ Below w.heap.size w w' := by
  refine (callsIn_wide (n := 9)).1 ?_
  have h1 : 1 ≤ 9 := by omega
  have HT : Hid (TmAt w t.1 a c t.2) := hT
  have HU : Hid (TmAt w u.1 ua uc u.2) := hU
  have HP : Hid (IntsAt w pa pn ps) := hP
  have G0 : Hid (Two w t u a ua c uc ((w.alloc (.cells #[.string t.1.1, .int .i64 t.1.2, .slice a (lenF t.2) c] 24)).alloc (.cells #[.string u.1.1, .int .i64 u.1.2, .slice ua (lenF u.2) uc] 24))) := Two.new w t u a ua c uc
  clear hT hU hP
  refine callsIn_of_wp_marks Try.func3 rfl trivial ?_ rfl
  simp only [Try.ntmps3, List.size_toArray, List.length_cons, List.length_nil, Nat.reduceAdd, Nat.reduceSub, Array.replicate_succ, Array.replicate_zero, List.push_toArray, List.append_toArray, List.nil_append, List.cons_append]
  gi_wp2_with fail
  refine ⟨trivial, ?_⟩
  refine (callsIn_wide.2 (head_any _)).mono ?_
  rintro e w1 ⟨rfl, hb⟩
  have G1 : Hid (Two w t u a ua c uc w1) := G0.out.below hb
  clear hb G0
  -- At
  obtain ⟨xa, hxa⟩ : ∃ xa, ansT (subT ps t) = xa := ⟨_, rfl⟩
  obtain ⟨ea, hea⟩ : ∃ ea, ansE (subT ps t) = ea := ⟨_, rfl⟩
  obtain ⟨xb, hxb⟩ : ∃ xb, ansT (putT u ps t) = xb := ⟨_, rfl⟩
  obtain ⟨eb, heb⟩ : ∃ eb, ansE (putT u ps t) = eb := ⟨_, rfl⟩
  have hC := at_any ps t a c pa pn pc w1 (HT.out.below G1.out.low) (HP.out.below G1.out.low) hpn
  unfold ansV at hC
  rw [hxa, hea] at hC
  have x0 := G1.out.t.c0; have x1 := G1.out.t.c1; have x2 := G1.out.t.c2
  gi_wp2_with fail
  refine ⟨trivial, ?_⟩
  refine (callsIn_wide.2 hC).mono ?_
  rintro e w2 ⟨a2, c2, rfl, hS2, hb⟩
  obtain ⟨W2, hW2⟩ : ∃ W2, w2.alloc (.cells #[.string xa.1.1, .int .i64 xa.1.2, .slice a2 (lenF xa.2) c2] 24) = W2 := ⟨_, rfl⟩
  have hb2 : Below w1.heap.size w1 W2 := by rw [← hW2]; exact hb.alloc hb.size _
  have X2 : Hid (Said W2 w2.heap.size xa a2 c2) := by show Said _ _ _ _ _; rw [← hW2]; exact Said.new hS2.tm
  have G2 : Hid (Two w t u a ua c uc W2) := G1.out.below hb2
  clear hC hb hS2 hb2 x0 x1 x2 G1
  -- Put
  have hC := put_any ps t u a ua c uc pa pn pc W2 (HT.out.below G2.out.low) (HU.out.below G2.out.low) (HP.out.below G2.out.low) hpn
  unfold ansV at hC
  rw [hxb, heb] at hC
  have x0 := G2.out.t.c0; have x1 := G2.out.t.c1; have x2 := G2.out.t.c2
  have y0 := G2.out.u.c0; have y1 := G2.out.u.c1; have y2 := G2.out.u.c2
  gi_wp2_with (rw [hW2])
  clear hW2
  refine ⟨trivial, ?_⟩
  refine (callsIn_wide.2 hC).mono ?_
  rintro e w3 ⟨a3, c3, rfl, hS3, hb⟩
  obtain ⟨W3, hW3⟩ : ∃ W3, w3.alloc (.cells #[.string xb.1.1, .int .i64 xb.1.2, .slice a3 (lenF xb.2) c3] 24) = W3 := ⟨_, rfl⟩
  have hb3 : Below W2.heap.size W2 W3 := by rw [← hW3]; exact hb.alloc hb.size _
  have Y3 : Hid (Said W3 w3.heap.size xb a3 c3) := by show Said _ _ _ _ _; rw [← hW3]; exact Said.new hS3.tm
  have X3 : Hid (Said W3 w2.heap.size xa a2 c2) := X2.out.below hb3
  have G3 : Hid (Two w t u a ua c uc W3) := G2.out.below hb3
  clear hC hb hS3 hb3 x0 x1 x2 y0 y1 y2 G2 X2
  have x0 := X3.out.box.c0; have x2 := X3.out.box.c2
  have y0 := Y3.out.box.c0; have y2 := Y3.out.box.c2
  cases hsub : subT ps t with
  | none =>
    rw [hsub] at hxa hea
    rw [put_none u ps t hsub] at hxb heb
    simp only [ansT, noT, Option.getD_none, ansE] at hxa hea hxb heb
    subst hxa hea hxb heb
    have e2 : lenF (BT.nil : Fo) = 0 := rfl
    have G4 : Hid (Below w.heap.size w W3) := G3.out.low
    dsimp only at hW3 x0 x2 y0 y2
    rw [e2] at hW3 x2 y2
    clear X3 Y3 G3
    gi_wp2_with (rw [hW3])
    exact ⟨_, results_tmp rfl _ _ _, rfl, G4.out⟩
  | some xx =>
    obtain ⟨yy, hput⟩ := put_some u ps t xx hsub
    rw [hsub] at hxa hea
    rw [hput] at hxb heb
    simp only [ansT, Option.getD_some, ansE] at hxa hea hxb heb
    subst hxa hea hxb heb
    have hsize := back_size u ps t xx yy hsub hput
    clear x0 x2 y0 y2
    -- Put of what was told
    have hC := put_any ps t xx a a2 c c2 pa pn pc W3 (HT.out.below G3.out.low) X3.out.at_ (HP.out.below G3.out.low) hpn
    rw [back_put ps t xx hsub] at hC
    unfold ansV at hC
    simp only [ansT, Option.getD_some, ansE] at hC
    have x0 := G3.out.t.c0; have x1 := G3.out.t.c1; have x2 := G3.out.t.c2
    have y0 := X3.out.box.c0; have y1 := X3.out.box.c1; have y2 := X3.out.box.c2
    gi_wp2_with (rw [hW3])
    clear hW3
    refine ⟨trivial, ?_⟩
    refine (callsIn_wide.2 hC).mono ?_
    rintro e w4 ⟨a4, c4, rfl, hS4, hb⟩
    obtain ⟨W4, hW4⟩ : ∃ W4, w4.alloc (.cells #[.string t.1.1, .int .i64 t.1.2, .slice a4 (lenF t.2) c4] 24) = W4 := ⟨_, rfl⟩
    have hb4 : Below W3.heap.size W3 W4 := by rw [← hW4]; exact hb.alloc hb.size _
    have Z4 : Hid (Said W4 w4.heap.size t a4 c4) := by show Said _ _ _ _ _; rw [← hW4]; exact Said.new hS4.tm
    have Y4 : Hid (Said W4 w3.heap.size yy a3 c3) := Y3.out.below hb4
    have X4 : Hid (Said W4 w2.heap.size xx a2 c2) := X3.out.below hb4
    have G4 : Hid (Two w t u a ua c uc W4) := G3.out.below hb4
    clear hC hb hS4 hb4 x0 x1 x2 y0 y1 y2 G3 X3 Y3
    -- At of what was made
    have hC := at_any ps yy a3 c3 pa pn pc W4 Y4.out.at_ (HP.out.below G4.out.low) hpn
    rw [back_at u ps t yy hput] at hC
    unfold ansV at hC
    simp only [ansT, Option.getD_some, ansE] at hC
    have x0 := Y4.out.box.c0; have x1 := Y4.out.box.c1; have x2 := Y4.out.box.c2
    gi_wp2_with (rw [hW4])
    clear hW4
    refine ⟨trivial, ?_⟩
    refine (callsIn_wide.2 hC).mono ?_
    rintro e w5 ⟨a5, c5, rfl, hS5, hb⟩
    obtain ⟨W5, hW5⟩ : ∃ W5, w5.alloc (.cells #[.string u.1.1, .int .i64 u.1.2, .slice a5 (lenF u.2) c5] 24) = W5 := ⟨_, rfl⟩
    have hb5 : Below W4.heap.size W4 W5 := by rw [← hW5]; exact hb.alloc hb.size _
    have V5 : Hid (Said W5 w5.heap.size u a5 c5) := by show Said _ _ _ _ _; rw [← hW5]; exact Said.new hS5.tm
    have Z5 : Hid (Said W5 w4.heap.size t a4 c4) := Z4.out.below hb5
    have Y5 : Hid (Said W5 w3.heap.size yy a3 c3) := Y4.out.below hb5
    have X5 : Hid (Said W5 w2.heap.size xx a2 c2) := X4.out.below hb5
    have G5 : Hid (Two w t u a ua c uc W5) := G4.out.below hb5
    clear hC hb hS5 hb5 x0 x1 x2 G4 X4 Y4 Z4
    -- All
    have bT6 := G5.out.t.below ((Below.refl _ W5).alloc (Nat.le_refl _) (.cells #[.int .i64 0] 3))
    have x0 := bT6.c0; have x1 := bT6.c1; have x2 := bT6.c2
    gi_wp2_with (rw [hW5])
    clear hW5 x0 x1 x2 bT6
    obtain ⟨W6, hW6⟩ : ∃ W6, W5.alloc (.cells #[.int .i64 0] 3) = W6 := ⟨_, rfl⟩
    have hb6 : Below W5.heap.size W5 W6 := by rw [← hW6]; exact (Below.refl _ _).alloc (Nat.le_refl _) _
    have N6 : Boxed W6 W5.heap.size 3 (.int .i64 0) := by rw [← hW6]; exact Boxed.new _ _ _
    have z6 : W6.heap.size = W5.heap.size + 1 := by rw [← hW6]; simp
    have hC := all_any t.1 t.2 a c W6 (HT.out.below (G5.out.low.trans (hb6.mono G5.out.low.size)))
    rw [hW6]
    clear hW6
    refine ⟨trivial, ?_⟩
    refine (callsIn_wide.2 hC).mono ?_
    rintro e w7 ⟨rfl, a7, c7, hA⟩
    have N7 : Boxed w7 W5.heap.size 3 (.int .i64 0) := boxed_below N6 hA.low
    have hb7 : Below W5.heap.size W5 w7 := hb6.trans (hA.low.mono hb6.size)
    have z7 := hA.low.size
    have HA : Hid (AllIs W6 w7 t.1 a7 c7 t.2) := hA
    clear hC hA N6 hb6
    gi_wp2
    have hM8 : (nodesF t.2 + 1 + 1) * 8 ≤ 140737488355328 := Nat.le_trans (Nat.mul_le_mul_right 8 (show nodesF t.2 + 2 ≤ 1048577 by omega)) (by decide)
    have hbox : TBox w7 (W5.heap.size + 1) t.1 a7 (lenF t.2) c7 := by rw [← z6]; exact HA.out.box
    refine range_ownN (gf := 15) (lb := #[.pointer (some ⟨W5.heap.size + 1, 0, none⟩)]) rfl (enters_of Try.func15 (by kernel_rfl) rfl)
      (all1_seq w7 (nodesF t.2 + 1) (W5.heap.size + 1) t.1 t.2 a7 c7 HA.out.own hbox hM8) (Below.refl _ _) (fun _ => rfl)
      (fun _ _ _ h hc => h.cl hc) (fun _ _ _ hc => KpA.of_cl hc) (fun _ _ _ _ h k => h.trans k)
      (fun pre V => Boxed V W5.heap.size 3 (.int .i64 (pre.length : Int)) ∧ Below W5.heap.size W5 V ∧ pre.length ≤ nodesF t.2 + 1)
      (fun _ _ _ => False)
      (fun _ _ _ h hm => ⟨boxed_mv h.1 hm (by omega), below_mv h.2.1 hm (by omega), h.2.2⟩) (fun _ _ _ _ h _ => h) (fun _ _ h => h.2.2) ⟨N7, hb7, by simp⟩
      (fun e a' _ => a' = { tmps := #[Value.agg #[Value.string t.fst.fst, Value.int IntKind.i64 t.fst.snd, Value.slice a (lenF t.snd) c], Value.slice pa pn pc, Value.agg #[Value.string u.fst.fst, Value.int IntKind.i64 u.fst.snd, Value.slice ua (lenF u.snd) uc], Value.pointer (some { block := w.heap.size, off := 0 }), undef, Value.pointer (some { block := w.heap.size + 1, off := 0 }), Value.bool false, Value.bool true, Value.pointer (some { block := w2.heap.size, off := 0 }), Value.int IntKind.i64 0, Value.pointer (some { block := w3.heap.size, off := 0 }), Value.int IntKind.i64 0, Value.pointer (some { block := w4.heap.size, off := 0 }), Value.int IntKind.i64 0, Value.pointer (some { block := w5.heap.size, off := 0 }), Value.int IntKind.i64 0, Value.pointer (some { block := W5.heap.size, off := 0 }), Value.bool true, Value.tuple #[Value.agg #[Value.string xx.fst.fst, Value.int IntKind.i64 xx.fst.snd, Value.slice a2 (lenF xx.snd) c2], Value.int IntKind.i64 0], Value.agg #[Value.string t.fst.fst, Value.int IntKind.i64 t.fst.snd, Value.slice a (lenF t.snd) c], Value.slice pa pn pc, Value.tuple #[Value.agg #[Value.string xx.fst.fst, Value.int IntKind.i64 xx.fst.snd, Value.slice a2 (lenF xx.snd) c2], Value.int IntKind.i64 0], Value.agg #[Value.string xx.fst.fst, Value.int IntKind.i64 xx.fst.snd, Value.slice a2 (lenF xx.snd) c2], Value.int IntKind.i64 0, Value.tuple #[Value.agg #[Value.string yy.fst.fst, Value.int IntKind.i64 yy.fst.snd, Value.slice a3 (lenF yy.snd) c3], Value.int IntKind.i64 0], Value.agg #[Value.string t.fst.fst, Value.int IntKind.i64 t.fst.snd, Value.slice a (lenF t.snd) c], Value.slice pa pn pc, Value.agg #[Value.string u.fst.fst, Value.int IntKind.i64 u.fst.snd, Value.slice ua (lenF u.snd) uc], Value.tuple #[Value.agg #[Value.string yy.fst.fst, Value.int IntKind.i64 yy.fst.snd, Value.slice a3 (lenF yy.snd) c3], Value.int IntKind.i64 0], Value.agg #[Value.string yy.fst.fst, Value.int IntKind.i64 yy.fst.snd, Value.slice a3 (lenF yy.snd) c3], Value.int IntKind.i64 0, Value.bool true, Value.bool false, Value.bool false, Value.int IntKind.i64 0, Value.int IntKind.i64 0, Value.bool false, Value.bool false, Value.int IntKind.i64 0, Value.bool false, undef, undef, undef, undef, undef, undef, undef, undef, undef, undef, undef, undef, undef, undef, undef, undef, undef, undef, undef, undef, undef, undef, undef, undef, Value.tuple #[Value.agg #[Value.string t.fst.fst, Value.int IntKind.i64 t.fst.snd, Value.slice a4 (lenF t.snd) c4], Value.int IntKind.i64 0], Value.agg #[Value.string t.fst.fst, Value.int IntKind.i64 t.fst.snd, Value.slice a (lenF t.snd) c], Value.slice pa pn pc, Value.agg #[Value.string xx.fst.fst, Value.int IntKind.i64 xx.fst.snd, Value.slice a2 (lenF xx.snd) c2], Value.tuple #[Value.agg #[Value.string t.fst.fst, Value.int IntKind.i64 t.fst.snd, Value.slice a4 (lenF t.snd) c4], Value.int IntKind.i64 0], Value.agg #[Value.string t.fst.fst, Value.int IntKind.i64 t.fst.snd, Value.slice a4 (lenF t.snd) c4], Value.int IntKind.i64 0, Value.tuple #[Value.agg #[Value.string u.fst.fst, Value.int IntKind.i64 u.fst.snd, Value.slice a5 (lenF u.snd) c5], Value.int IntKind.i64 0], Value.agg #[Value.string yy.fst.fst, Value.int IntKind.i64 yy.fst.snd, Value.slice a3 (lenF yy.snd) c3], Value.slice pa pn pc, Value.tuple #[Value.agg #[Value.string u.fst.fst, Value.int IntKind.i64 u.fst.snd, Value.slice a5 (lenF u.snd) c5], Value.int IntKind.i64 0], Value.agg #[Value.string u.fst.fst, Value.int IntKind.i64 u.fst.snd, Value.slice a5 (lenF u.snd) c5], Value.int IntKind.i64 0, Value.agg #[Value.string t.fst.fst, Value.int IntKind.i64 t.fst.snd, Value.slice a (lenF t.snd) c], Value.func (Fn.func 15) #[] #[Value.pointer (some { block := W5.heap.size + 1, off := 0 })], e.pv, Value.agg #[Value.string e.x.1, Value.int .i64 e.x.2, Value.slice e.a (lenF e.l) e.c], undef, undef, undef, undef, undef, undef, undef, undef, undef, undef, undef, undef, undef, undef, undef, undef, undef, undef, undef, undef, undef, undef, undef, undef, undef, undef, undef, undef, undef, undef, undef, undef, undef, undef, undef, undef, undef], defers := [] })
      (fun _ _ _ _ h _ => h) ?assign ?body ?done ?stop
    case assign =>
      rintro pre e V K _ _ hK m
      simp only [El.encs]
      gi_wp2
      exact hK _ _ (Below.refl _ _) (by simp)
    case body =>
      rintro pre e a' V _ ⟨bn, hB, hl⟩ hF rfl hlt _ m
      have cn := bn.cell
      have fn := bn.frozen
      gi_wp2
      refine ⟨(KeepsOthers.setCell _ _ _).from _, KpA.set bn (by omega) _, ?_, hB.setCell (p := ⟨W5.heap.size, 0, none⟩) (Nat.le_refl _) _, by simp; omega⟩
      rw [List.length_append, List.length_singleton, Int.natCast_add]
      exact bn.set _
    case done =>
      rintro ys V hS ⟨bn, hB, _⟩ hK
      have hys : ys.length = nodesF t.2 + 1 := by
        have := congrArg List.length hS
        rw [List.length_map, placesT, List.length_cons, places_len] at this
        exact this
      rw [hys] at bn
      have V8 := V5.out.below hB
      have Z8 := Z5.out.below hB
      have Y8 := Y5.out.below hB
      have X8 := X5.out.below hB
      have G8 := G5.out.below hB
      have hT8 : TmAt V t.1 a c t.2 := HT.out.below G8.low
      have hU8 : TmAt V u.1 ua uc u.2 := HU.out.below G8.low
      have hz1 := V8.at_
      have sizes : ∀ (y : Tn) (b : Option Addr) (d : Nat), TmAt V y.1 b d y.2 → nodesF y.2 + 2 ≤ 4194304 → Hid (∀ V', Below V.heap.size V V' → Calls Try.prog 9 #[.agg #[.string y.1.1, .int .i64 y.1.2, .slice b (lenF y.2) d]] V' fun e w' => e = .returned (.int .i64 ((nodesF y.2 + 1 : Nat) : Int)) ∧ Below V'.heap.size V' w') := fun y b d h hn V' hV => size_any y.1 y.2 b d V' (h.below hV) (Nat.le_trans (Nat.mul_le_mul_right 8 hn) (by decide))
      have cT := sizes t a c hT8 (by omega)
      have cU := sizes u ua uc hU8 (by omega)
      have cX := sizes xx a2 c2 X8.at_ (by omega)
      have cY := sizes yy a3 c3 Y8.at_ (by omega)
      have cE : Hid (∀ V', Below V.heap.size V V' → Calls Try.prog 8 #[.agg #[.string t.1.1, .int .i64 t.1.2, .slice a4 (lenF t.2) c4], .agg #[.string t.1.1, .int .i64 t.1.2, .slice a (lenF t.2) c]] V' fun e w' => e = .returned (.bool true) ∧ Below V'.heap.size V' w') := fun V' hV => exact_any t.1 t.2 a4 a c4 c V' (Z8.at_.below hV) (hT8.below hV)
      have cF : Hid (∀ V', Below V.heap.size V V' → Calls Try.prog 8 #[.agg #[.string u.1.1, .int .i64 u.1.2, .slice a5 (lenF u.2) c5], .agg #[.string u.1.1, .int .i64 u.1.2, .slice ua (lenF u.2) uc]] V' fun e w' => e = .returned (.bool true) ∧ Below V'.heap.size V' w') := fun V' hV => exact_any u.1 u.2 a5 ua c5 uc V' (V8.at_.below hV) (hU8.below hV)
      obtain ⟨st, hst⟩ : ∃ st, nodesF t.2 + 1 = st := ⟨_, rfl⟩
      obtain ⟨su, hsu⟩ : ∃ su, nodesF u.2 + 1 = su := ⟨_, rfl⟩
      obtain ⟨sx, hsx⟩ : ∃ sx, nodesF xx.2 + 1 = sx := ⟨_, rfl⟩
      obtain ⟨sy, hsy⟩ : ∃ sy, nodesF yy.2 + 1 = sy := ⟨_, rfl⟩
      have hsum : (sy : Int) = (st : Int) - (sx : Int) + (su : Int) := by omega
      have b1 : st ≤ 1048576 := by omega
      have b2 : su ≤ 1048576 := by omega
      have b3 : sx ≤ 4194304 := by omega
      rw [hst] at cT bn
      rw [hsu] at cU
      rw [hsx] at cX
      rw [hsy] at cY
      have hne := later_some V
      have d0 := later_cell G8.t.c0; have d1 := later_cell G8.t.c1; have d2 := later_cell G8.t.c2
      have d3 := later_cell G8.u.c0; have d4 := later_cell G8.u.c1; have d5 := later_cell G8.u.c2
      have d6 := later_cell X8.box.c0; have d7 := later_cell X8.box.c1; have d8 := later_cell X8.box.c2
      have d9 := later_cell Y8.box.c0; have d10 := later_cell Y8.box.c1; have d11 := later_cell Y8.box.c2
      have d12 := later_cell Z8.box.c0; have d13 := later_cell Z8.box.c1; have d14 := later_cell Z8.box.c2
      have d15 := later_cell V8.box.c0; have d16 := later_cell V8.box.c1; have d17 := later_cell V8.box.c2
      have d18 := later_cell bn.cell
      have GL : Hid (Below w.heap.size w V) := G8.low
      have z5 := G5.out.low.size
      clear sizes V8 Z8 Y8 X8 G8 hT8 hU8 hst hsu hsx hsy hsize hys hS hB bn hz1 hbox hM8 N7 hb7
      gi_wp2
      refine wpIn_wide.2 ?_
      refine wp_region_later (by kernel_rfl) (by kernel_rfl) ?_
      repeat (go_big_quiet_step (first
        | (go_at_call 8; with_reducible refine calls_later (cE.out _ ?_); exact Later.below _)
        | (go_at_call 8; with_reducible refine calls_later (cF.out _ ?_); exact Later.below _)
        | (go_at_call 9; with_reducible refine calls_later (cT.out _ ?_); exact Later.below _)
        | (go_at_call 9; with_reducible refine calls_later (cU.out _ ?_); exact Later.below _)
        | (go_at_call 9; with_reducible refine calls_later (cX.out _ ?_); exact Later.below _)
        | (go_at_call 9; with_reducible refine calls_later (cY.out _ ?_); exact Later.below _)
        | fail))
      refine wpQuiet_nil ?_
      intro _ hw'
      obtain ⟨b3, hw''⟩ := hw'
      subst hw''
      have hK3 : b3.now.heap[w7.heap.size]? = some (.deferred (some [])) := (b3.below.block _ (Array.getElem?_eq_some_iff.1 hK).1).trans hK
      have HL : Hid (Below w.heap.size w b3.now) := GL.out.trans (b3.below.mono GL.out.size)
      clear d0 d1 d2 d3 d4 d5 d6 d7 d8 d9 d10 d11 d12 d13 d14 d15 d16 d17 d18 hne
      gi_wp2
      refine ⟨by simp, .inl ⟨_, _, rfl, run_takeDeferred hK3, ?_⟩⟩
      exact ⟨_, results_tmp rfl _ _ _, rfl, HL.out.trans (below_putObj _ (by omega) _)⟩
    case stop =>
      rintro _ _ _ _ h _
      exact h.elim
end Go.Proofs.Ytmhdapgiealmfab
