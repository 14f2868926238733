/- For every three terms TermsOrder returns true: Compare of package terms is a total order of terms; no condition. -/
import Derived.Test.YtmhdapgiealmfaaTHead
import Derived.Test.YtmhdapgiealmfaaTOpen
namespace Go.Proofs.Ytmhdapgiealmfaa
open Go.ChangeShapes Go.WideShapes Go.ChangeAt Go.RowKit Go.Deep

theorem bytes_range : ∀ a b : List UInt8, -1 ≤ Lib.compareBytes a b ∧ Lib.compareBytes a b ≤ 1
  | [], [] => by simp [Lib.compareBytes]
  | [], _ :: _ => by simp [Lib.compareBytes]
  | _ :: _, [] => by simp [Lib.compareBytes]
  | a :: u, b :: v => by
    have := bytes_range u v
    rw [Lib.compareBytes]
    split
    · omega
    · split <;> omega
theorem ints_range (x y : Int) : -1 ≤ Lib.compareInt x y ∧ Lib.compareInt x y ≤ 1 := by
  unfold Lib.compareInt
  split
  · omega
  · split <;> omega
theorem cmp1_range (x y : ByteArray × Int) (n m : Nat) (d : Int) (h : -1 ≤ d ∧ d ≤ 1) : -1 ≤ cmp1 x y n m d ∧ cmp1 x y n m d ≤ 1 := by
  have h1 := bytes_range x.1.data.toList y.1.data.toList
  have h2 := ints_range x.2 y.2
  have h3 := ints_range n m
  unfold cmp1 cmpS
  (repeat' split) <;> first | assumption | omega
theorem cmpF_range : ∀ F G : Fo, -1 ≤ cmpF F G ∧ cmpF F G ≤ 1
  | .nil, _ => by simp [cmpF]
  | .node _ _ _ _ _, .nil => by simp [cmpF]
  | .node _ _ x l r, .node _ _ y m s => by
    have h1 := cmp1_range x y (lenF l) (lenF m) _ (cmpF_range l m)
    have h2 := cmpF_range r s
    rw [cmpF]
    unfold thenC
    split <;> assumption
def tm (x : ByteArray × Int) (l : Fo) : Tm := ⟨x.1, x.2, l⟩
theorem cmpT_range (x y : ByteArray × Int) (l m : Fo) : -1 ≤ cmpT (tm x l) (tm y m) ∧ cmpT (tm x l) (tm y m) ≤ 1 := cmp1_range _ _ _ _ _ (cmpF_range _ _)
theorem compare_any (x y : ByteArray × Int) (a b : Option Addr) (c d : Nat) (l m : Fo) (w : World) (hx : TmAt w x a c l) (hy : TmAt w y b d m) :
    Calls Try.prog 23 #[.agg #[.string x.1, .int .i64 x.2, .slice a (lenF l) c], .agg #[.string y.1, .int .i64 y.2, .slice b (lenF m) d]] w fun e w' => e = .returned (.int .i64 (cmpT (tm x l) (tm y m))) ∧ Below w.heap.size w w' :=
  compare_all _ x y a b c d l m w (Nat.le_refl _) hx hy
theorem TBox.below {W W' : World} {B : Nat} {x : ByteArray × Int} {a : Option Addr} {n c : Nat} (h : TBox W B x a n c) (hb : Below W.heap.size W W') : TBox W' B x a n c := (hb.block B (Array.getElem?_eq_some_iff.1 h).1).trans h

set_option maxHeartbeats 2000000 in
theorem termsOrder_walk (x y z : ByteArray × Int) (l m n : Fo) (a b c : Option Addr) (ca cb cc : Nat) (w : World) (hx : TmAt w x a ca l) (hy : TmAt w y b cb m) (hz : TmAt w z c cc n) :
    Calls Try.prog 8 #[.agg #[.string x.1, .int .i64 x.2, .slice a (lenF l) ca], .agg #[.string y.1, .int .i64 y.2, .slice b (lenF m) cb], .agg #[.string z.1, .int .i64 z.2, .slice c (lenF n) cc]] w fun e w' => e = .returned (.bool true) ∧ Below w.heap.size w w' := by
  have HX : Hid (TmAt w x a ca l) := hx
  have HY : Hid (TmAt w y b cb m) := hy
  have HZ : Hid (TmAt w z c cc n) := hz
  clear hx hy hz
  go_enter Try.func8, Try.ntmps8
  go_wp2_with fail
  obtain ⟨W1, hW1⟩ : ∃ W1, ((w.alloc (.cells #[.string x.1, .int .i64 x.2, .slice a (lenF l) ca] 26)).alloc (.cells #[.string y.1, .int .i64 y.2, .slice b (lenF m) cb] 26)).alloc (.cells #[.string z.1, .int .i64 z.2, .slice c (lenF n) cc] 26) = W1 := ⟨_, rfl⟩
  have T1 : Below w.heap.size w W1 := by rw [← hW1]; exact (((Below.refl _ w).alloc (Nat.le_refl _) _).alloc (by simp) _).alloc (by simp; omega) _
  have bx : TBox W1 w.heap.size x a (lenF l) ca := by
    rw [← hW1]; exact ((TBox.new w x a (lenF l) ca).below ((Below.refl _ _).alloc (Nat.le_refl _) _)).below ((Below.refl _ _).alloc (Nat.le_refl _) _)
  have by' : TBox W1 (w.heap.size + 1) y b (lenF m) cb := by
    have := (TBox.new (w.alloc (.cells #[.string x.1, .int .i64 x.2, .slice a (lenF l) ca] 26)) y b (lenF m) cb).below ((Below.refl _ _).alloc (Nat.le_refl _) (.cells #[.string z.1, .int .i64 z.2, .slice c (lenF n) cc] 26))
    rw [World.size_alloc] at this
    rw [← hW1]; exact this
  have bz : TBox W1 (w.heap.size + 1 + 1) z c (lenF n) cc := by
    have := TBox.new ((w.alloc (.cells #[.string x.1, .int .i64 x.2, .slice a (lenF l) ca] 26)).alloc (.cells #[.string y.1, .int .i64 y.2, .slice b (lenF m) cb] 26)) z c (lenF n) cc
    rw [World.size_alloc, World.size_alloc] at this
    rw [← hW1]; exact this
  rw [hW1]
  clear hW1
  refine (head_any _).mono ?_
  rintro e w2 ⟨rfl, hb2⟩
  have T2 : Hid (Below w.heap.size w w2) := T1.trans (hb2.mono T1.size)
  have BX2 : Hid (TBox w2 w.heap.size x a (lenF l) ca) := bx.below hb2
  have BY2 : Hid (TBox w2 (w.heap.size + 1) y b (lenF m) cb) := by'.below hb2
  have BZ2 : Hid (TBox w2 (w.heap.size + 1 + 1) z c (lenF n) cc) := bz.below hb2
  clear T1 bx by' bz hb2 W1
  have x0 := BX2.out.c0; have x1 := BX2.out.c1; have x2 := BX2.out.c2
  have y0 := BY2.out.c0; have y1 := BY2.out.c1; have y2 := BY2.out.c2
  go_wp2_with fail
  refine (compare_any x y a b ca cb l m w2 (HX.out.below T2.out) (HY.out.below T2.out)).mono ?_
  rintro e w3 ⟨rfl, hb3⟩
  have T3 : Hid (Below w.heap.size w w3) := T2.out.trans (hb3.mono T2.out.size)
  have BX3 : Hid (TBox w3 w.heap.size x a (lenF l) ca) := BX2.out.below hb3
  have BY3 : Hid (TBox w3 (w.heap.size + 1) y b (lenF m) cb) := BY2.out.below hb3
  have BZ3 : Hid (TBox w3 (w.heap.size + 1 + 1) z c (lenF n) cc) := BZ2.out.below hb3
  clear x0 x1 x2 y0 y1 y2 BX2 BY2 BZ2 T2 hb3
  have x0 := BX3.out.c0; have x1 := BX3.out.c1; have x2 := BX3.out.c2
  have y0 := BY3.out.c0; have y1 := BY3.out.c1; have y2 := BY3.out.c2
  go_wp2_with fail
  refine (compare_any y x b a cb ca m l w3 (HY.out.below T3.out) (HX.out.below T3.out)).mono ?_
  rintro e w4 ⟨rfl, hb4⟩
  have T4 : Hid (Below w.heap.size w w4) := T3.out.trans (hb4.mono T3.out.size)
  have BX4 : Hid (TBox w4 w.heap.size x a (lenF l) ca) := BX3.out.below hb4
  have BY4 : Hid (TBox w4 (w.heap.size + 1) y b (lenF m) cb) := BY3.out.below hb4
  have BZ4 : Hid (TBox w4 (w.heap.size + 1 + 1) z c (lenF n) cc) := BZ3.out.below hb4
  clear x0 x1 x2 y0 y1 y2 BX3 BY3 BZ3 T3 hb4
  have z0 := BZ4.out.c0; have z1 := BZ4.out.c1; have z2 := BZ4.out.c2
  have y0 := BY4.out.c0; have y1 := BY4.out.c1; have y2 := BY4.out.c2
  go_wp2_with fail
  refine (compare_any y z b c cb cc m n w4 (HY.out.below T4.out) (HZ.out.below T4.out)).mono ?_
  rintro e w5 ⟨rfl, hb5⟩
  have T5 : Hid (Below w.heap.size w w5) := T4.out.trans (hb5.mono T4.out.size)
  have BX5 : Hid (TBox w5 w.heap.size x a (lenF l) ca) := BX4.out.below hb5
  have BZ5 : Hid (TBox w5 (w.heap.size + 1 + 1) z c (lenF n) cc) := BZ4.out.below hb5
  clear z0 z1 z2 y0 y1 y2 BX4 BY4 BZ4 T4 hb5
  have z0 := BZ5.out.c0; have z1 := BZ5.out.c1; have z2 := BZ5.out.c2
  have x0 := BX5.out.c0; have x1 := BX5.out.c1; have x2 := BX5.out.c2
  go_wp2_with fail
  refine (compare_any x z a c ca cc l n w5 (HX.out.below T5.out) (HZ.out.below T5.out)).mono ?_
  rintro e w6 ⟨rfl, hb6⟩
  have T6 : Hid (Below w.heap.size w w6) := T5.out.trans (hb6.mono T5.out.size)
  have BX6 : Hid (TBox w6 w.heap.size x a (lenF l) ca) := BX5.out.below hb6
  clear z0 z1 z2 x0 x1 x2 BX5 BZ5 T5 hb6
  have x0 := BX6.out.c0; have x1 := BX6.out.c1; have x2 := BX6.out.c2
  go_wp2_with fail
  refine (compare_any x x a a ca ca l l w6 (HX.out.below T6.out) (HX.out.below T6.out)).mono ?_
  rintro e w7 ⟨rfl, hb7⟩
  have T7 : Hid (Below w.heap.size w w7) := T6.out.trans (hb7.mono T6.out.size)
  clear x0 x1 x2 BX6 T6 hb7
  rw [cmpT_self, cmpT_anti (tm x l) (tm y m)]
  have hc := cmpT_cons (tm x l) (tm y m) (tm z n)
  have r1 := cmpT_range x y l m
  obtain ⟨ab, hab⟩ : ∃ ab, cmpT (tm x l) (tm y m) = ab := ⟨_, rfl⟩
  obtain ⟨bc, hbc⟩ : ∃ bc, cmpT (tm y m) (tm z n) = bc := ⟨_, rfl⟩
  obtain ⟨ac, hac⟩ : ∃ ac, cmpT (tm x l) (tm z n) = ac := ⟨_, rfl⟩
  rw [hab, hbc, hac] at hc ⊢
  rw [hab] at r1
  clear hab hbc hac
  obtain ⟨k1, k2, k3, k4⟩ := hc
  have key : (decide (0 < ab) || decide (0 < bc) || decide (ac ≤ 0)) = true ∧ (ab = 0 → ac = bc) := by
    refine ⟨?_, k1⟩
    simp only [Bool.or_eq_true, decide_eq_true_eq]
    by_cases h1 : 0 < ab
    · exact .inl (.inl h1)
    · by_cases h2 : 0 < bc
      · exact .inl (.inr h2)
      · right
        by_cases e1 : ab = 0
        · have := k1 e1; omega
        · by_cases e2 : bc = 0
          · have := k2 e2; omega
          · have := k3 (by omega) (by omega); omega
  obtain ⟨key1, key2⟩ := key
  clear k1 k2 k3 k4
  go_wp2
  all_goals (go_ret; refine ⟨?_, T7.out⟩)
  all_goals first
    | rfl
    | (simp; omega)
    | (simp; exact key2 (by assumption))

set_option maxRecDepth 100000 in
theorem termsOrder_lifted (os : Os) (started : os.Started) (H : Type) (enc : TypeId × Value → H) :
    ReturnsInHanded {} Try.checked os 8 .any (Rows.termsOrderSpec.pre6 enc Try.prog Try.f8 Rows.termsOrderRow.domain false) (Rows.termsOrderSpec.post enc Try.prog Try.f8 false true false false) := by
  refine returnsInHanded_of_change_sized (C := Try.checked) own started (by kernel_rfl) Try.func8
    (ChangeSpec.witness6 (enc := enc) (C := Try.checked) false ⟨#[], #[.agg #[.string .empty, .int .i64 0, .slice none 0 0], .agg #[.string .empty, .int .i64 0, .slice none 0 0], .agg #[.string .empty, .int .i64 0, .slice none 0 0]], []⟩ 8 (by kernel_rfl) (by kernel_rfl) (by kernel_rfl) (by kernel_rfl)) ?_
  intro W base args ds gs before hval0 hW hcnd hsz0 _
  have hval : ∀ (j : Nat) t v, Try.f8.params[j]? = some t → args[j]? = some v → Value.okWide Try.prog W .any base t v := hval0
  have hsz : (DataW.weightsEach Try.prog (Try.f8.params.toList ++ Rows.termsOrderSpec.plain.varTypes Try.prog) (ds ++ gs)).all (· ≤ reachBytes) = true := hsz0
  have hW' := hW
  obtain ⟨p, q, hA0, hV, rfl, hfz, hnd⟩ := hW
  have hA : DataW.TrodAll enc Try.prog W 0 (fun _ => true) true Try.f8.params.toList args.toList ds p := hA0
  rw [Try.params8] at hA hval hsz
  obtain ⟨v0, vs0, d0, ds0, p0, q0, hargs, rfl, rfl, h0, r0⟩ := trodAll_cons hA
  obtain ⟨v1, vs1, d1, ds1, p1, q1, rfl, rfl, rfl, h1, r1⟩ := trodAll_cons r0
  obtain ⟨v2, vs2, d2, ds2, p2, q2, rfl, rfl, rfl, h2, r2⟩ := trodAll_cons r1
  obtain ⟨rfl, rfl, rfl⟩ := trodAll_nil r2
  obtain rfl : args = #[v0, v1, v2] := by cases args; simp_all
  obtain ⟨rfl, rfl⟩ := trodVars_none hV
  have lt0 : ∀ x ∈ p0, x.block < W.heap.size := by obtain ⟨m, hm⟩ := h0; exact DataW.trod_lt m _ _ _ hm
  have lt1 : ∀ x ∈ p1, x.block < W.heap.size := by obtain ⟨m, hm⟩ := h1; exact DataW.trod_lt m _ _ _ hm
  have lt2 : ∀ x ∈ p2, x.block < W.heap.size := by obtain ⟨m, hm⟩ := h2; exact DataW.trod_lt m _ _ _ hm
  obtain ⟨x, a, ca, l, rfl, hx, _⟩ := termv_open (hval 0 26 v0 rfl rfl) h0 (sz_of_weights hsz (j := 0) rfl rfl)
  obtain ⟨y, b, cb, m, rfl, hy, _⟩ := termv_open (hval 1 26 v1 rfl rfl) h1 (sz_of_weights hsz (j := 1) rfl rfl)
  obtain ⟨z, c, cc, n, rfl, hz, _⟩ := termv_open (hval 2 26 v2 rfl rfl) h2 (sz_of_weights hsz (j := 2) rfl rfl)
  clear hA0 hval0 hsz0
  refine (termsOrder_walk x y z l m n a b c ca cb cc W hx hy hz).mono fun e W' ⟨he, bel⟩ => ?_
  subst he
  exact ⟨_, rfl, _, _, _, [], _, [], hW', trodAll_mk1 (shut_bool Try.underlying4 _), (trodAll_cons_mk (Below.trod laidOut (by kernel_rfl) (of_decide_eq_true (by kernel_rfl)) h0 bel lt0) (trodAll_cons_mk (Below.trod laidOut (by kernel_rfl) (of_decide_eq_true (by kernel_rfl)) h1 bel lt1) (trodAll_cons_mk (Below.trod laidOut (by kernel_rfl) (of_decide_eq_true (by kernel_rfl)) h2 bel lt2) trodAll_mk0))), rfl, bel.frame _, fun h => by cases h⟩

theorem termsOrder_holds : Rows.TermsOrderSaid :=
  OpenClaim.holds_of_wide 8 Try.f8 rfl rfl rfl rfl rfl rfl rfl ⟨rfl, rfl, rfl, rfl, rfl⟩ rfl rfl rfl rfl rfl (by kernel_rfl) Try.func8 (by kernel_rfl)
    (of_decide_eq_true (by kernel_rfl)) (by unfold Func.isWrapper; first | (rw [if_pos (by decide +kernel)]; kernel_rfl) | (rw [if_neg (by decide +kernel)]; exact ⟨rfl, rfl⟩))
    (fun os started H enc _ => termsOrder_lifted os started H enc)
end Go.Proofs.Ytmhdapgiealmfaa
