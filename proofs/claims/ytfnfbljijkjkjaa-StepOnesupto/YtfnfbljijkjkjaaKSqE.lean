import Derived.Deep.RegionHeld3
import Derived.Test.YtfnfbljijkjkjaaKSpB
/- The walk of StepOnes. -/
namespace Go.Proofs.Ytfnfbljijkjkjaa
open Go.RowKit Go.Deep

theorem plain_right {l : List Sym} {A B : Tn} (h : plainB l A B = true) : rightB l A = true := by
  unfold plainB at h
  simp only [Bool.and_eq_true] at h
  exact h.1.1
/-- What is left to be spoilt. -/
structure SpSt (base e : Nat) (la : Option Addr) (w9 : World) (rest : List Kv) (W : World) : Prop where
  fr : Fr (fun q => base ≤ q ∧ q < e ∧ la ≠ some ⟨q, 0, none⟩) w9 W
  sep : ∃ A : Nat → Prop, (∀ q, A q → base ≤ q ∧ q < e ∧ la ≠ some ⟨q, 0, none⟩) ∧ SepL W rest A
theorem SpSt.next {base e : Nat} {la : Option Addr} {w9 : World} {k : Kv} {rest : List Kv} {W : World} (h : SpSt base e la w9 (k :: rest) W) :
    ∃ A1 : Nat → Prop, SepTm W A1 k.x k.a k.c k.l ∧ ∀ W', Fr A1 W W' → SpSt base e la w9 rest W' := by
  obtain ⟨A, hA, A1, A2, h1, h2, h3, h4⟩ := h.sep
  refine ⟨A1, h3, fun W' hW => ⟨h.fr.trans (hW.mono (fun q hq => hA q (h1 q hq))), A2, fun q hq => hA q (h2 q hq).1, h4.keep (fun q hq hlt => hW.same q hlt (h2 q hq).2)⟩⟩

theorem pair_at (ks : List Kv) (j : Nat) (h : 2 * j + 1 < ks.length) : ∃ k1 k2 : Kv, ks.drop (2 * j) = k1 :: k2 :: ks.drop (2 * (j + 1)) ∧ (kvCells ks)[j * 6]? = some (.string k1.x.1) ∧ (kvCells ks)[j * 6 + 1]? = some (.int .i64 k1.x.2) ∧ (kvCells ks)[j * 6 + 2]? = some (.slice k1.a (lenF k1.l) k1.c) ∧
    (kvCells ks)[j * 6 + 3]? = some (.string k2.x.1) ∧ (kvCells ks)[j * 6 + 3 + 1]? = some (.int .i64 k2.x.2) ∧ (kvCells ks)[j * 6 + 3 + 2]? = some (.slice k2.a (lenF k2.l) k2.c) := by
  have h1 := kv_at ks (2 * j) (by omega)
  have h2 := kv_at ks (2 * j + 1) h
  rw [show 2 * j * 3 = j * 6 by omega] at h1
  rw [show (2 * j + 1) * 3 = j * 6 + 3 by omega] at h2
  exact ⟨ks[2 * j], ks[2 * j + 1], by rw [List.drop_eq_getElem_cons (by omega), List.drop_eq_getElem_cons (by omega)]; rfl, h1.1, h1.2.1, h1.2.2, h2.1, h2.2.1, h2.2.2⟩

set_option maxRecDepth 100000 in
set_option maxHeartbeats 4000000 in
theorem ones_walk (hh : HeadOk) (S : Option Addr) (n cap : Nat) (sg : List Sym) (s t : Tn) (a b : Option Addr) (c d : Nat) (w : World) (hG : SigAt w S n sg) (hS : TmAt w s.1 a c s.2) (hT : TmAt w t.1 b d t.2) (hM : nodesF s.2 ≤ 1048576) (hN : nodesF t.2 ≤ 1048576) (hn : n ≤ 1048576) :
    Calls Try.prog 3 #[.slice S n cap, .agg #[.string s.1.1, .int .i64 s.1.2, .slice a (lenF s.2) c, .string t.1.1, .int .i64 t.1.2, .slice b (lenF t.2) d]] w fun e w' => e = .returned (.bool true) ∧ Below w.heap.size w w' := by
  have hl1 := lookP_len sg s t
  have hln := len_nodes s.2
  have hlen : (oneP sg s t).ls.length ≤ 1048576 := by
    unfold oneP
    split
    · simp [actW]
    · omega
  have hrin := fun h : plainB sg s t = true => right_in (plain_right h)
  obtain ⟨⟨xn, xs⟩, l⟩ := s
  obtain ⟨⟨yn, ys⟩, m⟩ := t
  dsimp only at *
  have HB0 := hid (alloc_below0 w (.cells #[.string xn, .int .i64 xs, .slice a (lenF l) c, .string yn, .int .i64 ys, .slice b (lenF m) d] 28))
  have HX := hid (Box.new w 28 #[.string xn, .int .i64 xs, .slice a (lenF l) c, .string yn, .int .i64 ys, .slice b (lenF m) d])
  have H6 := hid hh
  have H7a := hid fun (W : World) (hW : Below w.heap.size w W) => lent_any (xn, xs) l a c W (hS.below hW)
  have H7b := hid fun (W : World) (hW : Below w.heap.size w W) => lent_any (yn, ys) m b d W (hT.below hW)
  have H8 := hid fun (W : World) (a' b' : Option Addr) (c' d' : Nat) (hW : Below w.heap.size w W) (h1 : TmAt W (xn, xs) a' c' l) (h2 : TmAt W (yn, ys) b' d' m) => one_any S n cap sg ((xn, xs), l) ((yn, ys), m) a' b' c' d' W (hG.below hW) h1 h2 hM hN
  have H9a := hid fun (W : World) (P : Nat → Prop) (a' : Option Addr) (c' : Nat) (hW : Below w.heap.size w W) (h1 : OwnTm true P W (xn, xs) a' c' l) => kept_any P (xn, xs) l a' a c' c W h1 (hS.below hW)
  have H9b := hid fun (W : World) (P : Nat → Prop) (b' : Option Addr) (d' : Nat) (hW : Below w.heap.size w W) (h1 : OwnTm true P W (yn, ys) b' d' m) => kept_any P (yn, ys) m b' b d' d W h1 (hT.below hW)
  have H10 := hid fun (W : World) (hW : Below w.heap.size w W) => plain_any S n cap sg ((xn, xs), l) ((yn, ys), m) a b c d W (hG.below hW) (hS.below hW) (hT.below hW) hM hN hn
  have H12 := hid fun (W : World) (hW : Below w.heap.size w W) (hp : plainB sg ((xn, xs), l) ((yn, ys), m) = true) => rone_any S n cap sg ((xn, xs), l) ((yn, ys), m) a b c d W (hG.below hW) (hS.below hW) (hT.below hW) hM (hrin hp)
  obtain ⟨pb, hpb⟩ : ∃ pb, plainB sg ((xn, xs), l) ((yn, ys), m) = pb := ⟨_, rfl⟩
  obtain ⟨V, hV⟩ : ∃ V, oneP sg ((xn, xs), l) ((yn, ys), m) = V := ⟨_, rfl⟩
  rw [hpb] at H10 H12
  simp only [hV] at H8 H12
  rw [hV] at hlen
  clear hh hG hS hT hpb hV hl1 hln hrin
  dsimp only at *
  cases pb
  all_goals
    go_enter Try.func3, Try.ntmps3
    go_upto_region 3 with (first
      | (go_at_call 6; refine (H6.out _).mono ?_; rintro e w1 ⟨rfl, hb1⟩; have HB1 := hid (HB0.out.trans (hb1.mono HB0.out.size)); have X1 := HX.out.below hb1; have HX1 := hid X1; have z0 := X1.c 0; have z1 := X1.c 1; have z2 := X1.c 2; have z3 := X1.c 3; have z4 := X1.c 4; have z5 := X1.c 5; clear hb1 X1)
      | (go_at_call 7; (with_reducible refine (H7a.out _ HB1.out).mono ?_); rintro e w2 ⟨a', c', rfl, ho2, hb2⟩; have HO2 := hid ho2; have HB12 := hid hb2; clear ho2 hb2)
      | fail)
    have hb := alloc_below0 w2 (.cells #[.string xn, .int .i64 xs, .slice a' (lenF l) c'] 26)
    have HBL := hid (Box.new w2 26 #[.string xn, .int .i64 xs, .slice a' (lenF l) c'])
    have HOL := hid (HO2.out.below hb)
    have HX2 := hid ((HX1.out.below HB12.out).below hb)
    have HB2 := hid (HB1.out.trans ((HB12.out.trans (hb.mono HB12.out.size)).mono HB1.out.size))
    have HZ2 : Hid (w1.heap.size ≤ w2.heap.size) := hid HB12.out.size
    clear hb HO2 HB12 HX HX1 HB0 z0 z1 z2 z3 z4 z5
    generalize w2.alloc (.cells #[.string xn, .int .i64 xs, .slice a' (lenF l) c'] 26) = W2 at HBL HOL HX2 HB2 ⊢
    have z0 := HX2.out.c 0; have z1 := HX2.out.c 1; have z2 := HX2.out.c 2; have z3 := HX2.out.c 3; have z4 := HX2.out.c 4; have z5 := HX2.out.c 5
    go_upto_region 4 with (first
      | (go_at_call 7; (with_reducible refine (H7b.out _ HB2.out).mono ?_); rintro e w3 ⟨b', d', rfl, ho3, hb3⟩; have HO3 := hid ho3; have HB23 := hid hb3; clear ho3 hb3)
      | fail)
    have hb := alloc_below0 w3 (.cells #[.string yn, .int .i64 ys, .slice b' (lenF m) d'] 26)
    have h23 := HB23.out.trans (hb.mono HB23.out.size)
    have HBR := hid (Box.new w3 26 #[.string yn, .int .i64 ys, .slice b' (lenF m) d'])
    have HOR := hid (HO3.out.below hb)
    have HBL3 := hid (HBL.out.below h23)
    have HOL3 := hid (HOL.out.below h23)
    have HX3 := hid (HX2.out.below h23)
    have HB3 := hid (HB2.out.trans (h23.mono HB2.out.size))
    clear hb h23 HO3 HB23 HBL HOL HX2 z0 z1 z2 z3 z4 z5
    generalize w3.alloc (.cells #[.string yn, .int .i64 ys, .slice b' (lenF m) d'] 26) = W3 at HBR HOR HBL3 HOL3 HX3 HB3 ⊢
    have p0 := HBL3.out.c 0; have p1 := HBL3.out.c 1; have p2 := HBL3.out.c 2; have q0 := HBR.out.c 0; have q1 := HBR.out.c 1; have q2 := HBR.out.c 2
    go_upto_region 5 with (first
      | (go_at_call 8; (with_reducible refine (H8.out _ _ _ _ _ HB3.out HOL3.out.tm HOR.out.tm).mono ?_); rintro e w4 ⟨⟨v, rfl, hov⟩, hb4⟩; have HOV := hid hov; have HB34 := hid hb4; obtain ⟨tk, ks, la, lc, rfl, htk, hks, hrow, hsep⟩ := HOV.out.is; have HTK := hid htk; have HKS := hid hks; have HROW := hid hrow; have HSEP := hid hsep; clear hov hb4 htk hks hrow hsep; unfold wayC)
      | fail)
    have hb := alloc_below0 w4 (.cells #[.int .i64 V.act, .string V.bv, .string tk.x.1, .int .i64 tk.x.2, .slice tk.a (lenF tk.l) tk.c, .slice la V.ls.length lc, .int .i64 V.sym] 36)
    have h34 := HB34.out.trans (hb.mono HB34.out.size)
    have HBW := hid (Box.new w4 36 #[.int .i64 V.act, .string V.bv, .string tk.x.1, .int .i64 tk.x.2, .slice tk.a (lenF tk.l) tk.c, .slice la V.ls.length lc, .int .i64 V.sym])
    have HBL4 := hid (HBL3.out.below h34)
    have HBR4 := hid (HBR.out.below h34)
    have HOL4 := hid (HOL3.out.below h34)
    have HOR4 := hid (HOR.out.below h34)
    have HX4 := hid (HX3.out.below h34)
    have HB4 := hid (HB3.out.trans (h34.mono HB3.out.size))
    have HWY := hid (HOV.out.wy.below hb)
    have HROW4 := hid (HROW.out.keep (w' := w4.alloc (.cells #[.int .i64 V.act, .string V.bv, .string tk.x.1, .int .i64 tk.x.2, .slice tk.a (lenF tk.l) tk.c, .slice la V.ls.length lc, .int .i64 V.sym] 36)) (fun q _ hlt => hb.block q hlt))
    have HSEP4 := hid (HSEP.out.keep (w' := w4.alloc (.cells #[.int .i64 V.act, .string V.bv, .string tk.x.1, .int .i64 tk.x.2, .slice tk.a (lenF tk.l) tk.c, .slice la V.ls.length lc, .int .i64 V.sym] 36)) (fun q _ hlt => hb.block q hlt))
    have HZ4 : Hid (W3.heap.size ≤ w4.heap.size) := hid HB34.out.size
    have HZ5 : Hid (w4.heap.size + 1 = (w4.alloc (.cells #[.int .i64 V.act, .string V.bv, .string tk.x.1, .int .i64 tk.x.2, .slice tk.a (lenF tk.l) tk.c, .slice la V.ls.length lc, .int .i64 V.sym] 36)).heap.size) := hid (by simp)
    have HLT : Hid (w2.heap.size < W3.heap.size ∧ w3.heap.size < W3.heap.size ∧ w.heap.size < W3.heap.size) := hid ⟨HBL3.out.lt, HBR.out.lt, HX3.out.lt⟩
    have HO3L := hid HOL3.out; have HO3R := hid HOR.out
    have HB3W := hid h34
    unfold wayC at HWY
    clear hb h34 p0 p1 p2 q0 q1 q2 HBL3 HBR HX3 HOV HB34 HROW HSEP HOL3 HOR
    generalize w4.alloc (.cells #[.int .i64 V.act, .string V.bv, .string tk.x.1, .int .i64 tk.x.2, .slice tk.a (lenF tk.l) tk.c, .slice la V.ls.length lc, .int .i64 V.sym] 36) = W4 at HBW HBL4 HBR4 HOL4 HOR4 HX4 HB4 HWY HROW4 HSEP4 HZ5 HB3W ⊢
    have p0 := HBL4.out.c 0; have p1 := HBL4.out.c 1; have p2 := HBL4.out.c 2; have y0 := HX4.out.c 0; have y1 := HX4.out.c 1; have y2 := HX4.out.c 2
  · go_wp2_with (first
      | (go_at_call 9; (with_reducible refine (H9b.out _ _ _ _ HB5.out HOR5.out).mono ?_); rintro e w6 ⟨rfl, hb6⟩; have HB6 := hid (HB5.out.trans (hb6.mono HB5.out.size)); have HL6 : Hid (Below W4.heap.size W4 w6) := hid (HL5.out.trans (hb6.mono HL5.out.size)); have X6 := HX5.out.below hb6; have z0 := X6.c 0; have z1 := X6.c 1; have z2 := X6.c 2; have z3 := X6.c 3; have z4 := X6.c 4; have z5 := X6.c 5; have HX6 := hid X6; clear hb6 X6)
      | (go_at_call 9; (with_reducible refine (H9a.out _ _ _ _ HB4.out HOL4.out).mono ?_); rintro e w5 ⟨rfl, hb5⟩; have HB5 := hid (HB4.out.trans (hb5.mono HB4.out.size)); have HL5 : Hid (Below W4.heap.size W4 w5) := hid hb5; have HOR5 := hid (HOR4.out.below hb5); have X5 := HX4.out.below hb5; have HX5 := hid X5; have R5 := HBR4.out.below hb5; have t0 := R5.c 0; have t1 := R5.c 1; have t2 := R5.c 2; have t3 := X5.c 3; have t4 := X5.c 4; have t5 := X5.c 5; clear hb5 X5 R5)
      | (go_at_call 10; (with_reducible refine (H10.out _ HB6.out).mono ?_); rintro e w7 ⟨rfl, hb7⟩; have HB7 := hid (HB6.out.trans (hb7.mono HB6.out.size)); have HL7 : Hid (Below W4.heap.size W4 w7) := hid (HL6.out.trans (hb7.mono HL6.out.size)); clear hb7))
    go_ret
    exact ⟨rfl, HB7.out⟩
  · go_upto_region 10 with (first
      | (go_at_call 9; (with_reducible refine (H9b.out _ _ _ _ HB5.out HOR5.out).mono ?_); rintro e w6 ⟨rfl, hb6⟩; have HB6 := hid (HB5.out.trans (hb6.mono HB5.out.size)); have HL6 : Hid (Below W4.heap.size W4 w6) := hid (HL5.out.trans (hb6.mono HL5.out.size)); have X6 := HX5.out.below hb6; have z0 := X6.c 0; have z1 := X6.c 1; have z2 := X6.c 2; have z3 := X6.c 3; have z4 := X6.c 4; have z5 := X6.c 5; have HX6 := hid X6; clear hb6 X6)
      | (go_at_call 9; (with_reducible refine (H9a.out _ _ _ _ HB4.out HOL4.out).mono ?_); rintro e w5 ⟨rfl, hb5⟩; have HB5 := hid (HB4.out.trans (hb5.mono HB4.out.size)); have HL5 : Hid (Below W4.heap.size W4 w5) := hid hb5; have HOR5 := hid (HOR4.out.below hb5); have X5 := HX4.out.below hb5; have HX5 := hid X5; have R5 := HBR4.out.below hb5; have t0 := R5.c 0; have t1 := R5.c 1; have t2 := R5.c 2; have t3 := X5.c 3; have t4 := X5.c 4; have t5 := X5.c 5; clear hb5 X5 R5)
      | (go_at_call 10; (with_reducible refine (H10.out _ HB6.out).mono ?_); rintro e w7 ⟨rfl, hb7⟩; have HB7 := hid (HB6.out.trans (hb7.mono HB6.out.size)); have HL7 : Hid (Below W4.heap.size W4 w7) := hid (HL6.out.trans (hb7.mono HL6.out.size)); clear hb7)
      | fail)
    have HD7 : Hid (Below w.heap.size w w7.drew) := hid HB7.out.drew
    have HLD : Hid (Below W4.heap.size W4 w7.drew) := hid HL7.out.drew
    have HSB : Hid (∀ W : World, Below W4.heap.size W4 W → W.cell? ⟨w4.heap.size, 0, none⟩ = some (.int .i64 V.act) ∧ W.cell? ⟨w4.heap.size, 1, none⟩ = some (.string V.bv) ∧ W.cell? ⟨w4.heap.size, 2, none⟩ = some (.string tk.x.1) ∧ W.cell? ⟨w4.heap.size, 3, none⟩ = some (.int .i64 tk.x.2) ∧ W.cell? ⟨w4.heap.size, 4, none⟩ = some (.slice tk.a (lenF tk.l) tk.c) ∧ W.cell? ⟨w4.heap.size, 5, none⟩ = some (.slice la V.ls.length lc) ∧ W.cell? ⟨w4.heap.size, 6, none⟩ = some (.int .i64 V.sym) ∧ W.cell? ⟨w.heap.size, 0, none⟩ = some (.string xn) ∧ W.cell? ⟨w.heap.size, 1, none⟩ = some (.int .i64 xs) ∧ W.cell? ⟨w.heap.size, 2, none⟩ = some (.slice a (lenF l) c) ∧ W.cell? ⟨w.heap.size, 3, none⟩ = some (.string yn) ∧ W.cell? ⟨w.heap.size, 4, none⟩ = some (.int .i64 ys) ∧ W.cell? ⟨w.heap.size, 5, none⟩ = some (.slice b (lenF m) d)) := hid (fun W hW => by
      have bw := HBW.out.below hW; have bx := HX4.out.below hW
      exact ⟨bw.c 0, bw.c 1, bw.c 2, bw.c 3, bw.c 4, bw.c 5, bw.c 6, bx.c 0, bx.c 1, bx.c 2, bx.c 3, bx.c 4, bx.c 5⟩)
    have HN0 := hid (HSB.out w7.drew HLD.out)
    clear p0 p1 p2 y0 y1 y2 z0 z1 z2 z3 z4 z5 t0 t1 t2 t3 t4 t5 HB5 HL5 HOR5 HX5 HB6 HL6 HX6
    go_region_held3 (fun w' => w'.cell? ⟨w4.heap.size, 0, none⟩ = some (.int .i64 V.act) ∧ w'.cell? ⟨w4.heap.size, 1, none⟩ = some (.string V.bv) ∧ w'.cell? ⟨w4.heap.size, 2, none⟩ = some (.string tk.x.1) ∧ w'.cell? ⟨w4.heap.size, 3, none⟩ = some (.int .i64 tk.x.2) ∧ w'.cell? ⟨w4.heap.size, 4, none⟩ = some (.slice tk.a (lenF tk.l) tk.c) ∧ w'.cell? ⟨w4.heap.size, 5, none⟩ = some (.slice la V.ls.length lc) ∧ w'.cell? ⟨w4.heap.size, 6, none⟩ = some (.int .i64 V.sym) ∧ w'.cell? ⟨w.heap.size, 0, none⟩ = some (.string xn) ∧ w'.cell? ⟨w.heap.size, 1, none⟩ = some (.int .i64 xs) ∧ w'.cell? ⟨w.heap.size, 2, none⟩ = some (.slice a (lenF l) c) ∧ w'.cell? ⟨w.heap.size, 3, none⟩ = some (.string yn) ∧ w'.cell? ⟨w.heap.size, 4, none⟩ = some (.int .i64 ys) ∧ w'.cell? ⟨w.heap.size, 5, none⟩ = some (.slice b (lenF m) d)) ((first
        | (with_reducible exact HN2.out)
        | (with_reducible exact HN1.out)
        | (with_reducible exact HN0.out)
        | fail)) ((first
        | (go_at_call 12; (with_reducible refine Calls.mono (H12.out _ HD7.out trivial) ?_); rintro e w8 ⟨⟨v8, rfl, hw8⟩, hb8⟩; have HW8 := hid hw8; have HB8 : Hid (Below w.heap.size w w8) := hid (HD7.out.trans (hb8.mono HD7.out.size)); have HL8 : Hid (Below W4.heap.size W4 w8) := hid (HLD.out.trans (hb8.mono HLD.out.size)); have HN1 := hid (HSB.out w8 HL8.out); have HSM := hid (same_true V _ _ w8 (HWY.out.below HL8.out) hw8 hlen); clear hw8 hb8)
        | (go_at_call 11; (with_reducible refine Calls.mono HSM.out ?_); rintro e w9 ⟨rfl, hb9⟩; have HB9 : Hid (Below w.heap.size w w9) := hid (HB8.out.trans (hb9.mono HB8.out.size)); have HL9 : Hid (Below W4.heap.size W4 w9) := hid (HL8.out.trans (hb9.mono HL8.out.size)); have HN2 := hid (HSB.out w9 HL9.out); clear hb9)
        | fail))
    have HSP9 : Hid (SpSt W3.heap.size w4.heap.size la w9 (tk :: ks) w9) := hid ⟨Fr.refl _ _, _, fun _ h => h, HSEP4.out.keep (fun q hq hlt => HL9.out.block q hlt)⟩
    obtain ⟨A1, hs1, hnx1⟩ := HSP9.out.next
    have HS1 := hid hs1; have HNX1 := hid hnx1
    have bw := HBW.out.below HL9.out
    have i2 := bw.c 2; have i3 := bw.c 3; have i4 := bw.c 4
    have HBW9 := hid bw
    have HX9 := hid (HX4.out.below HL9.out); have HBL9 := hid (HBL4.out.below HL9.out); have HBR9 := hid (HBR4.out.below HL9.out)
    have HROW9 := hid (HROW4.out.keep (w' := w9) (fun q _ hlt => HL9.out.block q hlt))
    have HB39 : Hid (Below W3.heap.size W3 w9) := hid (HB3W.out.trans (HL9.out.mono HB3W.out.size))
    have hkl : ks.length = 2 * V.ls.length := by
      have := congrArg List.length HKS.out
      rwa [List.length_map, flat_len] at this
    clear hs1 hnx1 bw HN0 HN1 HN2 HSB HSM HW8 HB8 HL8 HSP9 HSEP4 HROW4 HBW HX4 HBL4 HBR4 HD7 HLD HB7 HL7 H12 H10 H8 H7a H7b H6
    go_wp2_with (first
      | (go_at_call 13; refine (spoil_any A1 tk.x tk.l tk.a tk.c w9 HS1.out).mono ?_; rintro e w10 ⟨⟨vv, rfl⟩, hfr⟩; have HP10 := hid (HNX1.out _ hfr); clear hfr))
    go_loopw [13] (fun iv wr => ∃ j : Nat, j ≤ V.ls.length ∧ iv = .int .i64 j ∧ SpSt W3.heap.size w4.heap.size la w9 (ks.drop (2 * j)) wr) (fun iv _ => V.ls.length - (intOf iv).toNat)
    case atStart => exact ⟨0, Nat.zero_le _, rfl, HP10.out⟩
    case round =>
      obtain ⟨j, hj, rfl, hsp⟩ := hrel
      have HSPR := hid hsp
      have HFW : Hid (∀ W, SpSt W3.heap.size w4.heap.size la w9 (ks.drop (2 * j)) W → Box W w4.heap.size 36 #[.int .i64 V.act, .string V.bv, .string tk.x.1, .int .i64 tk.x.2, .slice tk.a (lenF tk.l) tk.c, .slice la V.ls.length lc, .int .i64 V.sym]) := hid (fun W h => (h.fr.same _ HBW9.out.lt (fun hA => by omega)).trans HBW9.out)
      have m5 := (HFW.out _ hsp).c 5
      by_cases hlt : j < V.ls.length
      · rcases HROW9.out with ⟨h0, _, _⟩ | ⟨g, hla, hg1, hg2, hge⟩
        · omega
        · have HLA := hid hla
          clear hla hg1 hg2
          obtain ⟨⟨⟨x1n, x1s⟩, l1, a1, c1⟩, ⟨⟨x2n, x2s⟩, l2, a2, c2⟩, hd, k0, k1, k2, k3, k4, k5⟩ := pair_at ks j (by omega)
          rw [hd] at hsp
          have hrw : ∀ rest W, SpSt W3.heap.size w4.heap.size la w9 rest W → EqRow W g V.ls.length ks := fun rest W h => hge.keep (h.fr.same _ hge.lt (fun hA => hA.2.2 HLA.out))
          have hbw : ∀ rest W, SpSt W3.heap.size w4.heap.size la w9 rest W → W.cell? ⟨w4.heap.size, 5, none⟩ = some (.slice (some ⟨g, 0, none⟩) V.ls.length lc) := fun rest W h => by rw [← HLA.out]; exact Box.c ((h.fr.same _ HBW9.out.lt (fun hA => by omega)).trans HBW9.out) 5
          have HRW := hid hrw; have HBWR := hid hbw
          have e1 := hrw _ _ hsp
          clear m5
          have m5 := hbw _ _ hsp
          have p0 : wr.cell? ⟨g, j * 6, none⟩ = some (.string x1n) := e1.at k0
          have p1 : wr.cell? ⟨g, j * 6 + 1, none⟩ = some (.int .i64 x1s) := e1.at k1
          have p2 : wr.cell? ⟨g, j * 6 + 2, none⟩ = some (.slice a1 (lenF l1) c1) := e1.at k2
          obtain ⟨A2, hs2, hnx2⟩ := hsp.next
          have HS2 := hid hs2; have HNX2 := hid hnx2
          have HK3 := hid k3; have HK4 := hid k4; have HK5 := hid k5
          have hk0 : (0 : Int) ≤ (j : Int) := by omega
          have hkn : (j : Int) < (V.ls.length : Int) := by omega
          clear hsp hs2 hnx2 hrw hbw hge e1 k0 k1 k2 k3 k4 k5 hd HFW HSPR
          go_upto_region 16 with (first
            | (go_at_call 13; refine (spoil_any A2 (x1n, x1s) l1 a1 c1 wr HS2.out).mono ?_; rintro e wa ⟨⟨vv, rfl⟩, hfr⟩; have HPA := hid (HNX2.out _ hfr); clear hfr)
            | fail)
          obtain ⟨A3, hs3, hnx3⟩ := HPA.out.next
          have HS3 := hid hs3; have HNX3 := hid hnx3
          have e2 := HRW.out _ _ HPA.out
          have n5 := HBWR.out _ _ HPA.out
          have q3 : wa.cell? ⟨g, j * 6 + 3, none⟩ = some (.string x2n) := e2.at HK3.out
          have q4 : wa.cell? ⟨g, j * 6 + 3 + 1, none⟩ = some (.int .i64 x2s) := e2.at HK4.out
          have q5 : wa.cell? ⟨g, j * 6 + 3 + 2, none⟩ = some (.slice a2 (lenF l2) c2) := e2.at HK5.out
          clear hs3 hnx3 e2 m5 p0 p1 p2
          go_wp2_with (first
            | (go_at_call 13; refine (spoil_any A3 (x2n, x2s) l2 a2 c2 wa HS3.out).mono ?_; rintro e wb ⟨⟨vb, rfl⟩, hfr⟩; have HPB := hid (HNX3.out _ hfr); clear hfr)
            | fail)
          go_roundw
          case rel => exact ⟨j + 1, by omega, by go_num, HPB.out⟩
          case measure => simp [intOf]; omega
      · have b9 : Below W3.heap.size w9 wr := hsp.fr.below (fun k hk => hk.1) HB39.out.size
        have hz := HLT.out
        have X := (b9.block _ hz.2.2).trans HX9.out
        have L := (b9.block _ hz.1).trans HBL9.out
        have R := (b9.block _ hz.2.1).trans HBR9.out
        have HXR := hid (show Box wr w.heap.size 28 _ from X); have HLR := hid (show Box wr w2.heap.size 26 _ from L); have HRR := hid (show Box wr w3.heap.size 26 _ from R)
        have HOA := hid (HO3L.out.keep (w' := wr) (fun k _ hk => (b9.block k hk).trans (HB39.out.block k hk)))
        have HOB := hid (HO3R.out.keep (w' := wr) (fun k _ hk => (b9.block k hk).trans (HB39.out.block k hk)))
        have HBR0 : Hid (Below w.heap.size w wr) := hid (HB9.out.trans (b9.mono (by omega)))
        have x0 := HXR.out.c 0; have x1 := HXR.out.c 1; have x2 := HXR.out.c 2
        have u0 := HLR.out.c 0; have u1 := HLR.out.c 1; have u2 := HLR.out.c 2
        clear hsp b9 hz X L R HFW HSPR
        go_wp2_with (first
          | (go_at_call 9; (with_reducible refine (H9b.out _ _ _ _ HBR1.out HOB1.out).mono ?_); rintro e wd ⟨rfl, hbd⟩; have HBR2 := hid (HBR1.out.trans (hbd.mono HBR1.out.size)); clear hbd)
          | (go_at_call 9; (with_reducible refine (H9a.out _ _ _ _ HBR0.out HOA.out).mono ?_); rintro e wc ⟨rfl, hbc⟩; have HBR1 := hid (HBR0.out.trans (hbc.mono HBR0.out.size)); have HOB1 := hid (HOB.out.below hbc); have R1 := HRR.out.below hbc; have X1 := HXR.out.below hbc; have s0 := R1.c 0; have s1 := R1.c 1; have s2 := R1.c 2; have s3 := X1.c 3; have s4 := X1.c 4; have s5 := X1.c 5; clear hbc R1 X1))
        go_ret
        exact ⟨rfl, HBR2.out⟩
end Go.Proofs.Ytfnfbljijkjkjaa
