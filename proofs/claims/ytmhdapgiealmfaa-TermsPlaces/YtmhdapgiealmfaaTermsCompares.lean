/- For every two terms TermsCompares returns true: Compare and Same of package terms answer what the document says, and what was handed in stays; no condition. -/
import Derived.Test.YtmhdapgiealmfaaTHead
import Derived.Test.YtmhdapgiealmfaaTOpen
import Derived.Test.YtmhdapgiealmfaaTRCmp
namespace Go.Proofs.Ytmhdapgiealmfaa
open Go.ChangeShapes Go.WideShapes Go.ChangeAt Go.RowKit Go.Deep

/-- A lent term in a box. -/
structure LentIn (W : World) (B : Nat) (x : ByteArray × Int) (a : Option Addr) (c : Nat) (l : Fo) : Prop where
  own : OwnTm true (fun _ => True) W x a c l
  box : TBox W B x a (lenF l) c
theorem LentIn.below {W W' : World} {B : Nat} {x : ByteArray × Int} {a : Option Addr} {c : Nat} {l : Fo} (h : LentIn W B x a c l) (hb : Below W.heap.size W W') : LentIn W' B x a c l := ⟨h.own.below hb, h.box.below hb⟩

set_option maxHeartbeats 2000000 in
theorem termsCompares_walk (x y : ByteArray × Int) (l m : Fo) (a b : Option Addr) (ca cb : Nat) (w : World) (hx : TmAt w x a ca l) (hy : TmAt w y b cb m) :
    Calls Try.prog 5 #[.agg #[.string x.1, .int .i64 x.2, .slice a (lenF l) ca], .agg #[.string y.1, .int .i64 y.2, .slice b (lenF m) cb]] w fun e w' => e = .returned (.bool true) ∧ Below w.heap.size w w' := by
  have HX : Hid (TmAt w x a ca l) := hx
  have HY : Hid (TmAt w y b cb m) := hy
  have P0 : Hid (Pair w x a (lenF l) ca y b (lenF m) cb ((w.alloc (.cells #[.string x.1, .int .i64 x.2, .slice a (lenF l) ca] 26)).alloc (.cells #[.string y.1, .int .i64 y.2, .slice b (lenF m) cb] 26))) := Pair.new _ _ _ _ _ _ _ _ _
  clear hx hy
  go_enter Try.func5, Try.ntmps5
  go_wp2_with fail
  refine (head_any _).mono ?_
  rintro e w1 ⟨rfl, hb⟩
  have P1 : Hid (Pair w x a (lenF l) ca y b (lenF m) cb w1) := P0.out.below hb
  clear hb P0
  have x0 := P1.out.l.c0; have x1 := P1.out.l.c1; have x2 := P1.out.l.c2
  go_wp2_with fail
  refine (lent_any x l a ca w1 (HX.out.below P1.out.low)).mono ?_
  rintro e w2 ⟨a', c', rfl, ho2, hb⟩
  have hb2 : Below w1.heap.size w1 (w2.alloc (.cells #[.string x.1, .int .i64 x.2, .slice a' (lenF l) c'] 26)) := hb.alloc hb.size _
  have P2 : Hid (Pair w x a (lenF l) ca y b (lenF m) cb (w2.alloc (.cells #[.string x.1, .int .i64 x.2, .slice a' (lenF l) c'] 26))) := P1.out.below hb2
  have O2 : Hid (OwnTm true (fun k => w1.heap.size ≤ k) (w2.alloc (.cells #[.string x.1, .int .i64 x.2, .slice a' (lenF l) c'] 26)) x a' c' l) := ho2.below ((Below.refl _ _).alloc (Nat.le_refl _) _)
  have B2 : Hid (TBox (w2.alloc (.cells #[.string x.1, .int .i64 x.2, .slice a' (lenF l) c'] 26)) w2.heap.size x a' (lenF l) c') := TBox.new _ _ _ _ _
  clear hb hb2 ho2 P1 x0 x1 x2
  have x0 := P2.out.r.c0; have x1 := P2.out.r.c1; have x2 := P2.out.r.c2
  go_wp2_with fail
  refine (lent_any y m b cb _ (HY.out.below P2.out.low)).mono ?_
  rintro e w3 ⟨b', d', rfl, ho3, hb⟩
  have hb3 : Below (w2.alloc (.cells #[.string x.1, .int .i64 x.2, .slice a' (lenF l) c'] 26)).heap.size (w2.alloc (.cells #[.string x.1, .int .i64 x.2, .slice a' (lenF l) c'] 26)) (w3.alloc (.cells #[.string y.1, .int .i64 y.2, .slice b' (lenF m) d'] 26)) := hb.alloc hb.size _
  have P3 : Hid (Pair w x a (lenF l) ca y b (lenF m) cb (w3.alloc (.cells #[.string y.1, .int .i64 y.2, .slice b' (lenF m) d'] 26))) := P2.out.below hb3
  have O3 : Hid (OwnTm true (fun k => w1.heap.size ≤ k) (w3.alloc (.cells #[.string y.1, .int .i64 y.2, .slice b' (lenF m) d'] 26)) x a' c' l) := O2.out.below hb3
  have B3 : Hid (TBox (w3.alloc (.cells #[.string y.1, .int .i64 y.2, .slice b' (lenF m) d'] 26)) w2.heap.size x a' (lenF l) c') := B2.out.below hb3
  have O3' : Hid (OwnTm true (fun _ => True) (w3.alloc (.cells #[.string y.1, .int .i64 y.2, .slice b' (lenF m) d'] 26)) y b' d' m) := (ho3.below ((Below.refl _ _).alloc (Nat.le_refl _) _)).mono (fun _ _ _ => trivial)
  have B3' : Hid (TBox (w3.alloc (.cells #[.string y.1, .int .i64 y.2, .slice b' (lenF m) d'] 26)) w3.heap.size y b' (lenF m) d') := TBox.new _ _ _ _ _
  clear hb hb3 ho3 P2 O2 B2 x0 x1 x2
  obtain ⟨W, hW⟩ : ∃ W, w3.alloc (.cells #[.string y.1, .int .i64 y.2, .slice b' (lenF m) d'] 26) = W := ⟨_, rfl⟩
  rw [hW] at P3 O3 B3 O3' B3'
  have x0 := B3.out.c0; have x1 := B3.out.c1; have x2 := B3.out.c2
  have y0 := B3'.out.c0; have y1 := B3'.out.c1; have y2 := B3'.out.c2
  have LX : Hid (LentIn W w2.heap.size x a' c' l) := ⟨O3.out.mono (fun _ _ _ => trivial), B3.out⟩
  have LY : Hid (LentIn W w3.heap.size y b' d' m) := ⟨O3'.out, B3'.out⟩
  clear O3 B3 O3' B3'
  go_wp2_with (rw [hW])
  clear hW
  refine (compare_all _ x y a' b' c' d' l m W (Nat.le_refl _) LX.out.own.tm LY.out.own.tm).mono ?_
  rintro e w4 ⟨rfl, hb⟩
  have P4 : Hid (Pair w x a (lenF l) ca y b (lenF m) cb w4) := P3.out.below hb
  have LX4 : Hid (LentIn w4 w2.heap.size x a' c' l) := LX.out.below hb
  have LY4 : Hid (LentIn w4 w3.heap.size y b' d' m) := LY.out.below hb
  clear hb x0 x1 x2 y0 y1 y2 P3 LX LY
  have x0 := LX4.out.box.c0; have x1 := LX4.out.box.c1; have x2 := LX4.out.box.c2
  have y0 := LY4.out.box.c0; have y1 := LY4.out.box.c1; have y2 := LY4.out.box.c2
  go_wp2_with fail
  refine (same_any x y a' b' c' d' l m w4 LX4.out.own.tm LY4.out.own.tm).mono ?_
  rintro e w5 ⟨rfl, hb⟩
  have P5 : Hid (Pair w x a (lenF l) ca y b (lenF m) cb w5) := P4.out.below hb
  have LX5 : Hid (LentIn w5 w2.heap.size x a' c' l) := LX4.out.below hb
  have LY5 : Hid (LentIn w5 w3.heap.size y b' d' m) := LY4.out.below hb
  clear hb x0 x1 x2 y0 y1 y2 P4 LX4 LY4
  have x0 := LX5.out.box.c0; have x1 := LX5.out.box.c1; have x2 := LX5.out.box.c2
  have y0 := P5.out.l.c0; have y1 := P5.out.l.c1; have y2 := P5.out.l.c2
  go_wp2_with fail
  refine (kept_any _ x l a' a c' ca w5 LX5.out.own (HX.out.below P5.out.low)).mono ?_
  rintro e w6 ⟨rfl, hb⟩
  have P6 : Hid (Pair w x a (lenF l) ca y b (lenF m) cb w6) := P5.out.below hb
  have LY6 : Hid (LentIn w6 w3.heap.size y b' d' m) := LY5.out.below hb
  clear hb x0 x1 x2 y0 y1 y2 P5 LX5 LY5
  have x0 := LY6.out.box.c0; have x1 := LY6.out.box.c1; have x2 := LY6.out.box.c2
  have y0 := P6.out.r.c0; have y1 := P6.out.r.c1; have y2 := P6.out.r.c2
  go_wp2_with fail
  refine (kept_any _ y m b' b d' cb w6 LY6.out.own (HY.out.below P6.out.low)).mono ?_
  rintro e w7 ⟨rfl, hb⟩
  have P7 : Hid (Pair w x a (lenF l) ca y b (lenF m) cb w7) := P6.out.below hb
  clear hb x0 x1 x2 y0 y1 y2 P6 LY6
  have x0 := P7.out.l.c0; have x1 := P7.out.l.c1; have x2 := P7.out.l.c2
  have y0 := P7.out.r.c0; have y1 := P7.out.r.c1; have y2 := P7.out.r.c2
  go_wp2_with fail
  refine (rcompare_all _ x y a b ca cb l m w7 (Nat.le_refl _) (HX.out.below P7.out.low) (HY.out.below P7.out.low)).mono ?_
  rintro e w8 ⟨rfl, hb⟩
  have T8 : Hid (Below w.heap.size w w8) := P7.out.low.trans (hb.mono P7.out.low.size)
  clear hb x0 x1 x2 y0 y1 y2 P7
  go_wp2
  go_ret
  exact ⟨by simp, T8.out⟩

set_option maxRecDepth 100000 in
theorem termsCompares_lifted (os : Os) (started : os.Started) (H : Type) (enc : TypeId × Value → H) :
    ReturnsInHanded {} Try.checked os 5 .any (Rows.termsComparesSpec.pre6 enc Try.prog Try.f5 Rows.termsComparesRow.domain false) (Rows.termsComparesSpec.post enc Try.prog Try.f5 false true false false) := by
  refine returnsInHanded_of_change_sized (C := Try.checked) own started (by kernel_rfl) Try.func5
    (ChangeSpec.witness6 (enc := enc) (C := Try.checked) false ⟨#[], #[.agg #[.string .empty, .int .i64 0, .slice none 0 0], .agg #[.string .empty, .int .i64 0, .slice none 0 0]], []⟩ 8 (by kernel_rfl) (by kernel_rfl) (by kernel_rfl) (by kernel_rfl)) ?_
  intro W base args ds gs before hval0 hW hcnd hsz0 _
  have hval : ∀ (j : Nat) t v, Try.f5.params[j]? = some t → args[j]? = some v → Value.okWide Try.prog W .any base t v := hval0
  have hsz : (DataW.weightsEach Try.prog (Try.f5.params.toList ++ Rows.termsComparesSpec.plain.varTypes Try.prog) (ds ++ gs)).all (· ≤ reachBytes) = true := hsz0
  have hW' := hW
  obtain ⟨p, q, hA0, hV, rfl, hfz, hnd⟩ := hW
  have hA : DataW.TrodAll enc Try.prog W 0 (fun _ => true) true Try.f5.params.toList args.toList ds p := hA0
  rw [Try.params5] at hA hval hsz
  obtain ⟨v0, vs0, d0, ds0, p0, q0, hargs, rfl, rfl, h0, r0⟩ := trodAll_cons hA
  obtain ⟨v1, vs1, d1, ds1, p1, q1, rfl, rfl, rfl, h1, r1⟩ := trodAll_cons r0
  obtain ⟨rfl, rfl, rfl⟩ := trodAll_nil r1
  obtain rfl : args = #[v0, v1] := by cases args; simp_all
  obtain ⟨rfl, rfl⟩ := trodVars_none hV
  have lt0 : ∀ x ∈ p0, x.block < W.heap.size := by obtain ⟨m, hm⟩ := h0; exact DataW.trod_lt m _ _ _ hm
  have lt1 : ∀ x ∈ p1, x.block < W.heap.size := by obtain ⟨m, hm⟩ := h1; exact DataW.trod_lt m _ _ _ hm
  obtain ⟨x, a, ca, l, rfl, hx, _⟩ := termv_open (hval 0 26 v0 rfl rfl) h0 (sz_of_weights hsz (j := 0) rfl rfl)
  obtain ⟨y, b, cb, m, rfl, hy, _⟩ := termv_open (hval 1 26 v1 rfl rfl) h1 (sz_of_weights hsz (j := 1) rfl rfl)
  clear hA0 hval0 hsz0
  refine (termsCompares_walk x y l m a b ca cb W hx hy).mono fun e W' ⟨he, bel⟩ => ?_
  subst he
  exact ⟨_, rfl, _, _, _, [], _, [], hW', trodAll_mk1 (shut_bool Try.underlying4 _), (trodAll_cons_mk (Below.trod laidOut (by kernel_rfl) (of_decide_eq_true (by kernel_rfl)) h0 bel lt0) (trodAll_cons_mk (Below.trod laidOut (by kernel_rfl) (of_decide_eq_true (by kernel_rfl)) h1 bel lt1) trodAll_mk0)), rfl, bel.frame _, fun h => by cases h⟩

theorem termsCompares_holds : Rows.TermsComparesSaid :=
  OpenClaim.holds_of_wide 5 Try.f5 rfl rfl rfl rfl rfl rfl rfl ⟨rfl, rfl, rfl, rfl, rfl⟩ rfl rfl rfl rfl rfl (by kernel_rfl) Try.func5 (by kernel_rfl)
    (of_decide_eq_true (by kernel_rfl)) (by unfold Func.isWrapper; first | (rw [if_pos (by decide +kernel)]; kernel_rfl) | (rw [if_neg (by decide +kernel)]; exact ⟨rfl, rfl⟩))
    (fun os started H enc _ => termsCompares_lifted os started H enc)
end Go.Proofs.Ytmhdapgiealmfaa
