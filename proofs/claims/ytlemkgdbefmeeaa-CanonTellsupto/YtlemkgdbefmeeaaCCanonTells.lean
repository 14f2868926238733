/- For every signature, two terms, symbol and list of terms, of bulk at most 1048576, CanonTells returns true: Canon, Is and Equal of package canon answer as the document says of right terms, and of others the calls end and what was handed in stays; the condition is the second form's bound. -/
import Derived.Test.YtlemkgdbefmeeaaM7
/- How a statement of layer 4 follows from its walk: the frame, of CanonTells. -/
namespace Go.Proofs.Ytlemkgdbefmeeaa
open Go.ChangeShapes Go.WideShapes Go.ChangeAt Go.RowKit Go.Deep

def TellsWalk : Prop := ∀ (S : Option Addr) (n cap : Nat) (l : List Sym) (A B : Tn) (a b : Option Addr) (c d : Nat) (f : Int) (La : Option Addr) (F : Fo) (lc : Nat) (W : World), TwoAt W S n l A B a b c d La F → n ≤ cap → nodesF A.2 + nodesF B.2 + nodesF F + 4 ≤ 1048576 →
  Calls Try.prog 3 #[.agg (twoC S n cap A B a b c d f La F lc)] W fun e W' => e = .returned (.bool true) ∧ Below W.heap.size W W'

set_option maxRecDepth 100000 in
theorem canonTells_contract (walk : TellsWalk) (H : Type) (enc : TypeId × Value → H) (W : World) (base : Nat) (args : Array Value) (ds gs : List (DataW H)) (before : List MemPlace)
    (hval : ∀ (j : Nat) t v, Try.f3.params[j]? = some t → args[j]? = some v → Value.okWide Try.prog W .any base t v)
    (hW : DataW.Whole enc Try.prog Try.f3.params.toList Rows.canonTellsSpec.vars false W args.toList ds gs before) (hk : Rows.uptoSmall H (ds ++ gs) = true) :
    Calls Try.prog 3 args W fun e W' => ∃ v, e = .returned v ∧ Rows.canonTellsSpec.post enc Try.prog Try.f3 false true false false W args v W' := by
  have hW' := hW
  obtain ⟨p, q, hA0, hV, rfl, hfz, hnd⟩ := hW
  have hA : DataW.TrodAll enc Try.prog W 0 (fun _ => true) true Try.f3.params.toList args.toList ds p := hA0
  rw [Try.params3] at hA hval
  obtain ⟨v0, vs0, d0, ds0, p0, q0, hargs, rfl, rfl, h0, r0⟩ := trodAll_cons hA
  obtain ⟨rfl, rfl, rfl⟩ := trodAll_nil r0
  obtain rfl : args = #[v0] := by cases args; simp_all
  obtain ⟨rfl, rfl⟩ := trodVars_none hV
  have lt0 : ∀ x ∈ p0, x.block < W.heap.size := by obtain ⟨m, hm⟩ := h0; exact DataW.trod_lt m _ _ _ hm
  have hbulk : Rows.uptoBulk d0 ≤ 1048576 := by
    have h : Rows.uptoBulkAll ([d0] ++ []) ≤ 1048576 := of_decide_eq_true hk
    simp only [List.append_nil, Rows.uptoBulkAll] at h
    omega
  obtain ⟨S, n, cap, l, A, B, a, b, c, d, f, La, F, lc, rfl, hT, hc, hs⟩ := two_open (hval 0 28 v0 rfl rfl) h0 hbulk
  clear hA0
  refine (walk S n cap l A B a b c d f La F lc W hT hc hs).mono fun e W' ⟨he, bel⟩ => ?_
  subst he
  exact ⟨_, rfl, _, _, _, [], _, [], hW', trodAll_mk1 (shut_bool Try.underlying4 _), (trodAll_cons_mk (Below.trod laidOut (by kernel_rfl) (of_decide_eq_true (by kernel_rfl)) h0 bel lt0) trodAll_mk0), rfl, bel.frame _, fun h => by cases h⟩

set_option maxRecDepth 100000 in
theorem canonTells_lifted (walk : TellsWalk) (os : Os) (started : os.Started) (H : Type) (enc : TypeId × Value → H) (F : Stop.Interp) :
    ReturnsInHanded {} Try.checked os 3 .any ((Rows.OpenSpec.upto Rows.canonTellsSpec).pre6 enc Try.prog Try.f3 Rows.canonTellsUptoRow.domain false) (((Rows.OpenSpec.upto Rows.canonTellsSpec).at F).post enc Try.prog Try.f3 false true false false) := by
  refine returnsInHanded_of_cond (C := Try.checked) (s := Rows.OpenSpec.upto Rows.canonTellsSpec) (k := Rows.uptoSmall) rfl own started (by kernel_rfl) Try.func3
    (OpenSpec.witness (enc := enc) (C := Try.checked) (s := Rows.OpenSpec.upto Rows.canonTellsSpec) (k := Rows.uptoSmall) rfl false ⟨#[], #[.agg #[.slice none 0 0, .string .empty, .int .i64 0, .slice none 0 0, .string .empty, .int .i64 0, .slice none 0 0, .int .i64 0, .slice none 0 0]], []⟩ 8 (by kernel_rfl) (by kernel_rfl) (by kernel_rfl)
      (x := ([.agg [.nil, .agg [.lit (.string []), .lit (.int .i64 0), .nil], .agg [.lit (.string []), .lit (.int .i64 0), .nil], .lit (.int .i64 0), .nil]], [], [])) (by kernel_rfl) rfl (by kernel_rfl)) ?_
  intro W base args ds gs before hval hW _ hk _
  exact canonTells_contract walk H enc W base args ds gs before hval hW hk

set_option maxRecDepth 100000 in
theorem canonTells_of (walk : TellsWalk) : Rows.CanonTellsUptoSaid :=
  OpenClaim.holds_of_cond 3 Try.f3 rfl rfl rfl rfl rfl rfl rfl ⟨rfl, rfl, rfl, rfl, rfl⟩ rfl rfl rfl rfl rfl (by kernel_rfl) Try.func3 (by kernel_rfl)
    (of_decide_eq_true (by kernel_rfl)) (by unfold Func.isWrapper; first | (rw [if_pos (by decide +kernel)]; kernel_rfl) | (rw [if_neg (by decide +kernel)]; exact ⟨rfl, rfl⟩))
    (fun os started H enc _ F => canonTells_lifted walk os started H enc F)
end Go.Proofs.Ytlemkgdbefmeeaa
namespace Go.Proofs.Ytlemkgdbefmeeaa
open Go.RowKit Go.Deep

set_option maxRecDepth 100000 in
set_option maxHeartbeats 8000000 in
theorem tells_walk : TellsWalk := by
  intro S n cap l A B a b c d f La F lc w hT hcap hsz
  have HT := hid hT
  have hA : nodesF A.2 ≤ 1048576 := by omega
  have hB : nodesF B.2 ≤ 1048576 := by omega
  clear hT hsz
  have I0 : Hid (InSt w (twoC S n cap A B a b c d f La F lc) (w.alloc (.cells (twoC S n cap A B a b c d f La F lc) 28))) := InSt.new w _
  have HRT := hid (fun W (hW : Below w.heap.size w W) => right_any S n cap l A B a b c d f La F lc W (HT.out.below hW))
  unfold twoC at I0 HRT ⊢
  go_enter Try.func3, Try.ntmps3
  go_wp2_with fail
  refine (head_any _).mono ?_
  rintro e w1 ⟨rfl, hb1⟩
  have I1 := hid (I0.out.below hb1)
  clear I0 hb1
  have i1 := I1.out.box.c 1 rfl; have i2 := I1.out.box.c 2 rfl; have i3 := I1.out.box.c 3 rfl
  go_wp2_with fail
  refine (lent_any A.1 A.2 a c w1 (HT.out.a.below I1.out.low)).mono ?_
  rintro e w2 ⟨aa, ca, rfl, ho2, hb2⟩
  have I2 := hid ((I1.out.below hb2).below (alloc_below w2 (.cells #[.string A.1.1, .int .i64 A.1.2, .slice aa (lenF A.2) ca] 26)))
  have L2 := hid (LentAt.new ho2)
  clear I1 hb2 ho2 i1 i2 i3
  have i4 := I2.out.box.c 4 rfl; have i5 := I2.out.box.c 5 rfl; have i6 := I2.out.box.c 6 rfl
  go_wp2_with fail
  refine (lent_any B.1 B.2 b d _ (HT.out.b.below I2.out.low)).mono ?_
  rintro e w3 ⟨ab, cb, rfl, ho3, hb3⟩
  have I3 := hid ((I2.out.below hb3).below (alloc_below w3 (.cells #[.string B.1.1, .int .i64 B.1.2, .slice ab (lenF B.2) cb] 26)))
  have L3 := hid ((L2.out.below hb3).below (alloc_below w3 (.cells #[.string B.1.1, .int .i64 B.1.2, .slice ab (lenF B.2) cb] 26)))
  have M3 := hid (LentAt.new ho3)
  clear I2 L2 hb3 ho3 i4 i5 i6
  have e3 : w3.heap.size < (w3.alloc (.cells #[.string B.1.1, .int .i64 B.1.2, .slice ab (lenF B.2) cb] 26)).heap.size := by simp
  have i0 := I3.out.box.c 0 rfl
  have l0 := L3.out.box.c0; have l1 := L3.out.box.c1; have l2 := L3.out.box.c2
  go_wp2_with fail
  clear i0 l0 l1 l2
  generalize w3.alloc (.cells #[.string B.1.1, .int .i64 B.1.2, .slice ab (lenF B.2) cb] 26) = W3 at I3 L3 M3 e3 ⊢
  refine (pcanon_any S n cap l A aa ca W3 (HT.out.sig.below I3.out.low) L3.out.tm hA).mono ?_
  rintro e w4 ⟨k, rfl, hr4, hE4, hb4⟩
  have HR4 := hid hr4
  have hb4' : Below W3.heap.size W3 (w4.alloc (.cells #[.string k.x.1, .int .i64 k.x.2, .slice k.a (lenF k.l) k.c] 26)) := hb4.trans ((alloc_below w4 _).mono hb4.size)
  have C4 : Hid (SepTm (w4.alloc (.cells #[.string k.x.1, .int .i64 k.x.2, .slice k.a (lenF k.l) k.c] 26)) (fun q => W3.heap.size ≤ q ∧ q < w4.heap.size) k.x k.a k.c k.l) := SepTm.keep (fun q _ hq => Below.heap_alloc _ _ _ hq) (SepTm.within hE4.1)
  have X4 : Hid (XBox (w4.alloc (.cells #[.string k.x.1, .int .i64 k.x.2, .slice k.a (lenF k.l) k.c] 26)) w4.heap.size k.x (.slice k.a (lenF k.l) k.c)) := World.alloc_heap_new w4 _
  have B4 := hid hb4'
  clear hr4 hE4 hb4 hb4'
  have i0 := (I3.out.below B4.out).box.c 0 rfl
  have l0 := (L3.out.below B4.out).box.c0; have l1 := (L3.out.below B4.out).box.c1; have l2 := (L3.out.below B4.out).box.c2
  go_wp2_with fail
  clear i0 l0 l1 l2
  generalize w4.alloc (.cells #[.string k.x.1, .int .i64 k.x.2, .slice k.a (lenF k.l) k.c] 26) = W4 at C4 X4 B4 ⊢
  refine (pis_any S n cap l A aa ca W4 (HT.out.sig.below (I3.out.below B4.out).low) (L3.out.below B4.out).tm hA).mono ?_
  rintro e w5 ⟨r5, hr5, rfl, hb5⟩
  have HR5 := hid hr5
  have B5 : Hid (Below W4.heap.size W4 w5) := hb5
  have D5 : Hid (Below W3.heap.size W3 w5) := B4.out.trans (hb5.mono B4.out.size)
  clear hr5 hb5
  have i0 := (I3.out.below D5.out).box.c 0 rfl
  have l0 := (L3.out.below D5.out).box.c0; have l1 := (L3.out.below D5.out).box.c1; have l2 := (L3.out.below D5.out).box.c2
  have m0 := (M3.out.below D5.out).box.c0; have m1 := (M3.out.below D5.out).box.c1; have m2 := (M3.out.below D5.out).box.c2
  go_wp2_with fail
  refine (pequal_any S n cap l A B aa ab ca cb w5 (HT.out.sig.below (I3.out.below D5.out).low) (L3.out.below D5.out).tm (M3.out.below D5.out).tm hA hB).mono ?_
  rintro e w6 ⟨r6, s6, hr6, hs6, rfl, hb6⟩
  have HR6 := hid hr6
  have HS6 := hid hs6
  have D6 : Hid (Below W3.heap.size W3 w6) := D5.out.trans (hb6.mono D5.out.size)
  have B6 : Hid (Below W4.heap.size W4 w6) := B5.out.trans (hb6.mono B5.out.size)
  clear hr6 hs6 hb6 i0 l0 l1 l2 m0 m1 m2 D5 B5
  have i1 := (I3.out.below D6.out).box.c 1 rfl; have i2 := (I3.out.below D6.out).box.c 2 rfl; have i3 := (I3.out.below D6.out).box.c 3 rfl
  have l0 := (L3.out.below D6.out).box.c0; have l1 := (L3.out.below D6.out).box.c1; have l2 := (L3.out.below D6.out).box.c2
  go_wp2_with fail
  refine (kept_any _ A.1 A.2 aa a ca c w6 (L3.out.below D6.out).own (HT.out.a.below (I3.out.below D6.out).low)).mono ?_
  rintro e w7 ⟨rfl, hb7⟩
  have D7 : Hid (Below W3.heap.size W3 w7) := D6.out.trans (hb7.mono D6.out.size)
  have B7 : Hid (Below W4.heap.size W4 w7) := B6.out.trans (hb7.mono B6.out.size)
  clear hb7 i1 i2 i3 l0 l1 l2 D6 B6
  have i4 := (I3.out.below D7.out).box.c 4 rfl; have i5 := (I3.out.below D7.out).box.c 5 rfl; have i6 := (I3.out.below D7.out).box.c 6 rfl
  have m0 := (M3.out.below D7.out).box.c0; have m1 := (M3.out.below D7.out).box.c1; have m2 := (M3.out.below D7.out).box.c2
  go_wp2_with fail
  refine (kept_any _ B.1 B.2 ab b cb d w7 (M3.out.below D7.out).own (HT.out.b.below (I3.out.below D7.out).low)).mono ?_
  rintro e w8 ⟨rfl, hb8⟩
  have D8 : Hid (Below W3.heap.size W3 w8) := D7.out.trans (hb8.mono D7.out.size)
  have B8 : Hid (Below W4.heap.size W4 w8) := B7.out.trans (hb8.mono B7.out.size)
  clear hb8 i4 i5 i6 m0 m1 m2 D7 B7
  have i0 := (I3.out.below D8.out).box.c 0 rfl; have i1 := (I3.out.below D8.out).box.c 1 rfl; have i2 := (I3.out.below D8.out).box.c 2 rfl; have i3 := (I3.out.below D8.out).box.c 3 rfl
  have i4 := (I3.out.below D8.out).box.c 4 rfl; have i5 := (I3.out.below D8.out).box.c 5 rfl; have i6 := (I3.out.below D8.out).box.c 6 rfl; have i7 := (I3.out.below D8.out).box.c 7 rfl; have i8 := (I3.out.below D8.out).box.c 8 rfl
  go_wp2_with fail
  refine (HRT.out w8 (I3.out.below D8.out).low).mono ?_
  rintro e w9 ⟨rfl, hb9⟩
  have D9 : Hid (Below W3.heap.size W3 w9) := D8.out.trans (hb9.mono D8.out.size)
  have B9 : Hid (Below W4.heap.size W4 w9) := B8.out.trans (hb9.mono B8.out.size)
  clear hb9 i0 i1 i2 i3 i4 i5 i6 i7 i8 D8 B8
  cases hrt : (rightB l A && rightB l B && (kidsL F).all (rightB l))
  · go_wp2
    go_ret
    exact ⟨rfl, (I3.out.below D9.out).low⟩
  · have hra : rightB l A = true := by simp only [Bool.and_eq_true] at hrt; exact hrt.1.1
    have hrb : rightB l B = true := by simp only [Bool.and_eq_true] at hrt; exact hrt.1.2
    have HRA := hid hra
    have HRB := hid hrb
    clear hra hrb
    have i0 := (I3.out.below D9.out).box.c 0 rfl; have i1 := (I3.out.below D9.out).box.c 1 rfl; have i2 := (I3.out.below D9.out).box.c 2 rfl; have i3 := (I3.out.below D9.out).box.c 3 rfl
    go_wp2_with fail
    obtain ⟨hOk, hRA⟩ := right_facts HRA.out
    have hRB := (right_facts HRB.out).2
    have hk : k.tn = canonT (sgOf l) A := HR4.out.2 hOk hRA
    have e5 : (cmpN A r5 == 0) = exN (canonT (sgOf l) A).1 A.1 (canonT (sgOf l) A).2 A.2 := is_same HRA.out HR5.out
    have e6 : (cmpN r6 s6 == 0) = (cmpN (canonT (sgOf l) A) (canonT (sgOf l) B) == 0) := by rw [HR6.out.2 hOk hRA, HS6.out.2 hOk hRB]
    have HCA := hid (canon_all S n cap l 1048576 (Nat.le_refl _) A a c w9 hA (HT.out.sig.below (I3.out.below D9.out).low) (HT.out.a.below (I3.out.below D9.out).low))
    have HIS := hid (fun W (hW : Below w.heap.size w W) => is_any S n cap l A a c W (HT.out.sig.below hW) (HT.out.a.below hW) hA)
    have HEQ := hid (fun W (hW : Below w.heap.size w W) => equal_any S n cap l A B a b c d W (HT.out.sig.below hW) (HT.out.a.below hW) (HT.out.b.below hW) hA hB)
    rw [e5, e6]
    obtain ⟨iv, hiv⟩ : ∃ iv, exN (canonT (sgOf l) A).1 A.1 (canonT (sgOf l) A).2 A.2 = iv := ⟨_, rfl⟩
    obtain ⟨ev, hev⟩ : ∃ ev, (cmpN (canonT (sgOf l) A) (canonT (sgOf l) B) == 0) = ev := ⟨_, rfl⟩
    rw [hiv] at HIS ⊢
    rw [hev] at HEQ ⊢
    clear e5 e6 hiv hev hOk hRA hRB i0 i1 i2 i3
    obtain ⟨ct, hct⟩ : ∃ ct, canonT (sgOf l) A = ct := ⟨_, rfl⟩
    rw [hct] at hk HCA
    have HK := hid hk
    clear hk hct
    refine HCA.out.mono ?_
    rintro e w10 ⟨a10, c10, rfl, ho10, hb10⟩
    have hbx := hb10.trans ((alloc_below w10 (.cells #[.string ct.1.1, .int .i64 ct.1.2, .slice a10 (lenF ct.2) c10] 26)).mono hb10.size)
    have D10 := hid (D9.out.trans (hbx.mono D9.out.size))
    have B10 := hid (B9.out.trans (hbx.mono B9.out.size))
    have O10 := hid (ho10.tm.below (alloc_below w10 (.cells #[.string ct.1.1, .int .i64 ct.1.2, .slice a10 (lenF ct.2) c10] 26)))
    have x0 := (X4.out.below B10.out).c0; have x1 := (X4.out.below B10.out).c1; have x2 := (X4.out.below B10.out).c2
    clear ho10 hb10 hbx HCA D9 B9
    go_wp2_with fail
    refine (rexact_any k.tn ct k.a a10 k.c c10 _ (SepTm.tm (C4.out.below B10.out)) O10.out).mono ?_
    rintro e w11 ⟨he, hb11⟩
    have he' : e = .returned (.bool true) := by rw [he, HK.out, exN_self]
    subst he'
    have D11 := hid (D10.out.trans (hb11.mono D10.out.size))
    have B11 := hid (B10.out.trans (hb11.mono B10.out.size))
    clear he hb11 x0 x1 x2 D10 B10 O10
    have x0 := (X4.out.below B11.out).c0; have x1 := (X4.out.below B11.out).c1; have x2 := (X4.out.below B11.out).c2
    go_wp2_with fail
    refine (spoil_any _ k.x k.l k.a k.c w11 (C4.out.below B11.out)).mono ?_
    rintro e w12 ⟨⟨v, rfl⟩, hf⟩
    have D12 : Hid (Below W3.heap.size W3 w12) := D11.out.trans (hf.below (fun _ h => h.1) D11.out.size)
    clear hf x0 x1 x2 D11 B11
    have i1 := (I3.out.below D12.out).box.c 1 rfl; have i2 := (I3.out.below D12.out).box.c 2 rfl; have i3 := (I3.out.below D12.out).box.c 3 rfl
    have l0 := (L3.out.below D12.out).box.c0; have l1 := (L3.out.below D12.out).box.c1; have l2 := (L3.out.below D12.out).box.c2
    go_wp2_with fail
    refine (kept_any _ A.1 A.2 aa a ca c w12 (L3.out.below D12.out).own (HT.out.a.below (I3.out.below D12.out).low)).mono ?_
    rintro e w13 ⟨rfl, hb13⟩
    have D13 : Hid (Below W3.heap.size W3 w13) := D12.out.trans (hb13.mono D12.out.size)
    clear hb13 i1 i2 i3 l0 l1 l2 D12
    have T13 := hid (I3.out.below D13.out).low
    have bx := (I3.out.below D13.out).box
    have i0 := bx.c 0 rfl; have i1 := bx.c 1 rfl; have i2 := bx.c 2 rfl; have i3 := bx.c 3 rfl
    clear bx
    go_wp2_with fail
    refine (HIS.out w13 T13.out).mono ?_
    rintro e w14 ⟨rfl, hb14⟩
    have D14 : Hid (Below W3.heap.size W3 w14) := D13.out.trans (hb14.mono D13.out.size)
    clear hb14 i0 i1 i2 i3 D13
    have bx := (I3.out.below D14.out).box
    have i0 := bx.c 0 rfl; have i1 := bx.c 1 rfl; have i2 := bx.c 2 rfl; have i3 := bx.c 3 rfl; have i4 := bx.c 4 rfl; have i5 := bx.c 5 rfl; have i6 := bx.c 6 rfl
    clear bx
    go_wp2_with fail
    refine (HEQ.out w14 (I3.out.below D14.out).low).mono ?_
    rintro e w15 ⟨rfl, hb15⟩
    have T15 := hid ((I3.out.below D14.out).low.trans (hb15.mono (I3.out.below D14.out).low.size))
    clear hb15
    go_wp2
    go_ret
    exact ⟨rfl, T15.out⟩
theorem canonTells : Rows.CanonTellsUptoSaid := canonTells_of tells_walk
end Go.Proofs.Ytlemkgdbefmeeaa
