/- For every term and every names, of bulk at most 1048576, TermsTells returns true: Size, Clone, Vars and Has of package terms answer what the document says, the answers are new memory, and what was handed in stays. -/
import Derived.Test.YtmhdapgiealmfaaTHead
import Derived.Test.YtmhdapgiealmfaaTOpen
import Derived.Test.YtmhdapgiealmfaaTermsCompares
import Derived.Test.YtmhdapgiealmfaaTermsChecks
import Derived.Test.YtmhdapgiealmfaaTSpoil
import Derived.Test.YtmhdapgiealmfaaTRSize
import Derived.Test.YtmhdapgiealmfaaTRVarsB
import Derived.JoinedCond
namespace Go.Proofs.Ytmhdapgiealmfaa
open Go.ChangeShapes Go.WideShapes Go.ChangeAt Go.RowKit Go.Deep

structure Ground3 (w : World) (x : ByteArray × Int) (a : Option Addr) (c : Nat) (l : Fo) (B : Nat) (a' : Option Addr) (c' : Nat) (W : World) : Prop where
  one : One w x a (lenF l) c W
  lent : LentIn W B x a' c' l
theorem Ground3.below {w : World} {x : ByteArray × Int} {a : Option Addr} {c : Nat} {l : Fo} {B : Nat} {a' : Option Addr} {c' : Nat} {W W' : World} (h : Ground3 w x a c l B a' c' W) (hb : Below W.heap.size W W') : Ground3 w x a c l B a' c' W' := ⟨h.one.below hb, h.lent.below hb⟩
/-- The copy in its box. -/
structure Copied (W : World) (A : Nat → Prop) (B : Nat) (x : ByteArray × Int) (a : Option Addr) (c : Nat) (l : Fo) : Prop where
  sep : SepTm W A x a c l
  box : TBox W B x a (lenF l) c
theorem Copied.below {W W' : World} {A : Nat → Prop} {B : Nat} {x : ByteArray × Int} {a : Option Addr} {c : Nat} {l : Fo} (h : Copied W A B x a c l) (hb : Below W.heap.size W W') : Copied W' A B x a c l := ⟨h.sep.below hb, h.box.below hb⟩
theorem vars_same (x : ByteArray × Int) (l : Fo) : Lib.compact (sortL (namesN x ++ namesFo l)) = varsL x l := by rw [varsL, namesT_is]

/-- This block is the row's. -/
def InRow (a : Option Addr) (k : Nat) : Prop := ∃ off sp, a = some ⟨k, off, sp⟩
theorem Fr.set {A : Nat → Prop} {W : World} {g : Nat} (hg : A g) (i : Nat) (a : Value) : Fr A W (W.setCell ⟨g, i, none⟩ a) :=
  ⟨(Below.refl 0 W).setCell (p := ⟨g, i, none⟩) (Nat.zero_le _) _, fun q _ hn => Below.heap_setCell _ _ _ q (fun e => hn (e ▸ hg))⟩

set_option maxRecDepth 100000 in
set_option maxHeartbeats 4000000 in
theorem termsTells_walk (x : ByteArray × Int) (l : Fo) (a : Option Addr) (c : Nat) (na : Option Addr) (nn nc : Nat) (ns : List Nm) (w : World) (hT : TmAt w x a c l) (hN : TextsAt w na nn ns) (hbig : nodesF l + 1 ≤ 1048576) (hnn : nn ≤ 9223372036854775807) :
    Calls Try.prog 4 #[.agg #[.string x.1, .int .i64 x.2, .slice a (lenF l) c], .slice na nn nc] w fun e w' => e = .returned (.bool true) ∧ Below w.heap.size w w' := by
  have HT : Hid (TmAt w x a c l) := hT
  have HN : Hid (TextsAt w na nn ns) := hN
  have hM8 : (nodesF l + 2) * 8 ≤ 140737488355328 := Nat.le_trans (Nat.mul_le_mul_right 8 (show nodesF l + 2 ≤ 1048577 by omega)) (by decide)
  have hM16 : (nodesF l + 2) * 16 ≤ 140737488355328 := Nat.le_trans (Nat.mul_le_mul_right 16 (show nodesF l + 2 ≤ 1048577 by omega)) (by decide)
  have O0 : Hid (One w x a (lenF l) c (w.alloc (.cells #[.string x.1, .int .i64 x.2, .slice a (lenF l) c] 26))) := One.new _ _ _ _ _
  clear hT hN
  go_enter Try.func4, Try.ntmps4
  go_wp2_with fail
  refine (head_any _).mono ?_
  rintro e w1 ⟨rfl, hb⟩
  have O1 : Hid (One w x a (lenF l) c w1) := O0.out.below hb
  clear hb O0
  have x0 := O1.out.t.c0; have x1 := O1.out.t.c1; have x2 := O1.out.t.c2
  go_wp2_with fail
  refine (lent_any x l a c w1 (HT.out.below O1.out.low)).mono ?_
  rintro e w2 ⟨a', c', rfl, ho2, hb⟩
  have hb2 := hb.alloc hb.size (.cells #[.string x.1, .int .i64 x.2, .slice a' (lenF l) c'] 26)
  have G2 : Hid (Ground3 w x a c l w2.heap.size a' c' (w2.alloc (.cells #[.string x.1, .int .i64 x.2, .slice a' (lenF l) c'] 26))) := ⟨O1.out.below hb2, (ho2.below ((Below.refl _ _).alloc (Nat.le_refl _) _)).mono (fun _ _ _ => trivial), TBox.new _ _ _ _ _⟩
  clear hb hb2 ho2 O1 x0 x1 x2
  go_wp2_with fail
  refine (size_any x l a' c' _ G2.out.lent.own.tm hM8).mono ?_
  rintro e w3 ⟨rfl, hb⟩
  have G3 : Hid (Ground3 w x a c l w2.heap.size a' c' w3) := G2.out.below hb
  clear hb G2
  have x0 := G3.out.lent.box.c0; have x1 := G3.out.lent.box.c1; have x2 := G3.out.lent.box.c2
  go_wp2_with fail
  refine (clone_any x l a' c' w3 G3.out.lent.own.tm).mono ?_
  rintro e w4 ⟨a2, c2, rfl, hs4, hb⟩
  have hb4 : Hid (Below w3.heap.size w3 (w4.alloc (.cells #[.string x.1, .int .i64 x.2, .slice a2 (lenF l) c2] 26))) := hb.alloc hb.size _
  have C4 : Hid (Copied (w4.alloc (.cells #[.string x.1, .int .i64 x.2, .slice a2 (lenF l) c2] 26)) (fun k => w3.heap.size ≤ k) w4.heap.size x a2 c2 l) := ⟨hs4.below ((Below.refl _ _).alloc (Nat.le_refl _) _), TBox.new _ _ _ _ _⟩
  have G4 : Hid (Ground3 w x a c l w2.heap.size a' c' (w4.alloc (.cells #[.string x.1, .int .i64 x.2, .slice a2 (lenF l) c2] 26))) := G3.out.below hb4.out
  clear hb hs4 x0 x1 x2
  have x0 := G4.out.one.t.c0; have x1 := G4.out.one.t.c1; have x2 := G4.out.one.t.c2
  go_wp2_with fail
  refine (exact_any x l a2 a c2 c _ C4.out.sep.tm (HT.out.below G4.out.one.low)).mono ?_
  rintro e w5 ⟨rfl, hb⟩
  have hb5 : Hid (Below w3.heap.size w3 w5) := hb4.out.trans (hb.mono hb4.out.size)
  have C5 : Hid (Copied w5 (fun k => w3.heap.size ≤ k) w4.heap.size x a2 c2 l) := C4.out.below hb
  have G5 : Hid (Ground3 w x a c l w2.heap.size a' c' w5) := G4.out.below hb
  clear hb hb4 C4 G4 x0 x1 x2
  have x0 := G5.out.lent.box.c0; have x1 := G5.out.lent.box.c1; have x2 := G5.out.lent.box.c2
  obtain ⟨vs, hvs⟩ : ∃ vs, varsL x l = vs := ⟨_, rfl⟩
  have hC1 := vars_any x l a' c' w5 G5.out.lent.own.tm hM16
  rw [hvs] at hC1
  go_wp2_with fail
  refine hC1.mono ?_
  rintro e w6 ⟨v1, rfl, hr, hb⟩
  obtain ⟨la, lc, rfl, hlc, hlm, hL, _, hLb⟩ := texts_of_owns hr
  have hlen : vs.length ≤ 9223372036854775807 := Nat.le_trans hlc hlm
  have G6 : Hid (Ground3 w x a c l w2.heap.size a' c' w6) := G5.out.below hb
  have B6 : Hid (Below w5.heap.size w5 w6) := hb
  have L6 : Hid (TextsAt w6 la vs.length vs) := hL
  have Lb : Hid (∀ b off sp, la = some ⟨b, off, sp⟩ → w5.heap.size ≤ b ∧ off = 0 ∧ sp = none ∧ ∃ cur, w6.heap[b]? = some (Obj.cells cur 9 (0, 0))) := hLb
  clear hC1 hr hb hL hLb x0 x1 x2
  have x0 := G6.out.one.t.c0; have x1 := G6.out.one.t.c1; have x2 := G6.out.one.t.c2
  have hC1 := rvars_any x l a c w6 (HT.out.below G6.out.one.low) hbig
  rw [vars_same, hvs] at hC1
  go_wp2_with fail
  refine hC1.mono ?_
  rintro e w7 ⟨v1, rfl, hr, hb⟩
  obtain ⟨ra, rc, rfl, _, _, hL, _, hLb⟩ := texts_of_owns hr
  have G7 : Hid (Ground3 w x a c l w2.heap.size a' c' w7) := G6.out.below hb
  have B7 : Hid (Below w5.heap.size w5 w7) := B6.out.trans (hb.mono B6.out.size)
  have L7 : Hid (TextsAt w7 la vs.length vs) := L6.out.below hb
  have R7 : Hid (TextsAt w7 ra vs.length vs) := hL
  have Rb : Hid (∀ b off sp, ra = some ⟨b, off, sp⟩ → w6.heap.size ≤ b ∧ off = 0 ∧ sp = none) := fun b off sp e => ⟨(hLb b off sp e).1, (hLb b off sp e).2.1, (hLb b off sp e).2.2.1⟩
  have Lb7 : Hid (∀ b off sp, la = some ⟨b, off, sp⟩ → w5.heap.size ≤ b ∧ b < w6.heap.size ∧ off = 0 ∧ sp = none ∧ ∃ cur, w7.heap[b]? = some (Obj.cells cur 9 (0, 0))) := fun b off sp e => by
    obtain ⟨h1, h2, h3, cur, h4⟩ := Lb.out b off sp e
    have hlt := (Array.getElem?_eq_some_iff.1 h4).1
    exact ⟨h1, hlt, h2, h3, cur, (hb.block b hlt).trans h4⟩
  clear hC1 hr hb hL hLb x0 x1 x2 Lb B6 L6 G6
  have x0 := G7.out.one.t.c0; have x1 := G7.out.one.t.c1; have x2 := G7.out.one.t.c2
  have hC1 := rsize_all _ x l a c w7 (Nat.le_refl _) (HT.out.below G7.out.one.low) (by omega)
  go_wp2_with fail
  refine hC1.mono ?_
  rintro e w8 ⟨rfl, hb⟩
  have B8 : Hid (Below w5.heap.size w5 w8) := B7.out.trans (hb.mono B7.out.size)
  have L8 : Hid (TextsAt w8 la vs.length vs) := L7.out.below hb
  have R8 : Hid (TextsAt w8 ra vs.length vs) := R7.out.below hb
  have Lb8 : Hid (∀ b off sp, la = some ⟨b, off, sp⟩ → w5.heap.size ≤ b ∧ b < w6.heap.size ∧ off = 0 ∧ sp = none ∧ ∃ cur, w8.heap[b]? = some (Obj.cells cur 9 (0, 0))) := fun b off sp e => by
    obtain ⟨h1, h2, h3, h4, cur, h5⟩ := Lb7.out b off sp e
    exact ⟨h1, h2, h3, h4, cur, (hb.block b (Array.getElem?_eq_some_iff.1 h5).1).trans h5⟩
  clear hC1 hb x0 x1 x2 B7 L7 R7 Lb7 G7 hvs
  have HW : Hid (∀ W, Fr (InRow la) w8 W → Below w5.heap.size w5 W) := fun W hF => B8.out.trans (hF.below (fun k hk => by obtain ⟨off, sp, e⟩ := hk; exact (Lb8.out _ _ _ e).1) B8.out.size)
  have HR : Hid (∀ W, Fr (InRow la) w8 W → TextsAt W ra vs.length vs) := fun W hF => ⟨rfl, fun i hi => by
    obtain ⟨b, off, e, hc⟩ := R8.out.cells i hi
    refine ⟨b, off, e, ?_⟩
    rw [← hc]
    exact World.cell?_of_block (hF.same b (World.block_lt_of_cell? w8 _ hc) (fun hA => by
      obtain ⟨o, sp, e'⟩ := hA
      have h1 := (Lb8.out _ _ _ e').2.1
      have h2 := (Rb.out _ _ _ e).1
      omega))⟩
  go_wp2
  go_loopw [12] (fun iv wr => ∃ k : Nat, k ≤ vs.length ∧ iv = .int .i64 k ∧ Fr (InRow la) w8 wr ∧ (∀ i (h : i < vs.length), k ≤ i → ∃ b cur, la = some ⟨b, 0, none⟩ ∧ wr.cell? ⟨b, i, none⟩ = some (.string ⟨vs[i].toArray⟩) ∧ wr.heap[b]? = some (Obj.cells cur 9 (0, 0)))) (fun iv _ => vs.length - (intOf iv).toNat)
  case atStart =>
    refine ⟨0, Nat.zero_le _, rfl, Fr.refl _ _, fun i hi _ => ?_⟩
    obtain ⟨b, off, e, hc⟩ := L8.out.cells i hi
    obtain ⟨_, _, ho, _, cur, hcur⟩ := Lb8.out _ _ _ e
    subst ho
    exact ⟨b, cur, e, by rw [← hc, Nat.zero_add], hcur⟩
  case round =>
    obtain ⟨k, hk, rfl, hF, hcell⟩ := hrel
    have HF : Hid (Fr (InRow la) w8 wr) := hF
    have HC : Hid (∀ i (h : i < vs.length), k ≤ i → ∃ b cur, la = some ⟨b, 0, none⟩ ∧ wr.cell? ⟨b, i, none⟩ = some (.string ⟨vs[i].toArray⟩) ∧ wr.heap[b]? = some (Obj.cells cur 9 (0, 0))) := hcell
    clear hF hcell
    by_cases hlt : k < vs.length
    · obtain ⟨g, cur, rfl, q0, hg⟩ := HC.out k hlt (Nat.le_refl _)
      obtain ⟨b2, o2, rfl, r0⟩ := (HR.out wr HF.out).cells k hlt
      obtain ⟨_, rfl, _⟩ := Rb.out _ _ _ rfl
      rw [Nat.zero_add] at r0
      obtain ⟨s, hsd⟩ : ∃ s, vs[k] = s := ⟨_, rfl⟩
      rw [hsd] at q0 r0
      have hne := later_some wr
      have d0 := later_cell q0
      have e0 := later_cell r0
      have hj0 : (0 : Int) ≤ (k : Int) := by omega
      have hjn : (k : Int) < (vs.length : Int) := by omega
      have HG : Hid (wr.heap[g]? = some (Obj.cells cur 9 (0, 0))) := hg
      clear q0 r0 hg hsd
      go_wp2_with fail
      refine wp_region_later (by kernel_rfl) (by kernel_rfl) ?_
      repeat (go_big_quiet_step (fail))
      refine wpQuiet_nil ?_
      intro _ hw'
      obtain ⟨b3, hw''⟩ := hw'
      subst hw''
      have q1 := d0 b3
      have hG3 : b3.now.heap[g]? = some (Obj.cells cur 9 (0, 0)) := (b3.below.block g (Array.getElem?_eq_some_iff.1 HG.out).1).trans HG.out
      have f1 := row_frozen (i := k) hG3
      have HG3 : Hid (b3.now.heap[g]? = some (Obj.cells cur 9 (0, 0))) := hG3
      clear d0 e0 hne hG3
      go_wp2
      go_roundw
      case rel =>
        refine ⟨k + 1, by omega, by go_num, (HF.out.trans (Fr.of_below b3.below)).trans (Fr.set ⟨0, none, rfl⟩ k _), fun i hi hki => ?_⟩
        obtain ⟨b, cur', e, hc, hb'⟩ := HC.out i hi (by omega)
        cases e
        refine ⟨g, _, rfl, ?_, block_set HG3.out _⟩
        rw [World.cell?_setCell_other _ _ _ _ (fun e => by cases e; omega)]
        exact later_cell hc b3
      case measure => simp [intOf]; omega
    · have HB : Hid (Below w5.heap.size w5 wr) := HW.out wr HF.out
      clear HC HF HR HW L8 R8 Lb8 Rb B8
      go_wp2
      go_loopw [13] (fun iv wr => ∃ k : Nat, k ≤ nn ∧ iv = .int .i64 k ∧ Below w5.heap.size w5 wr) (fun iv _ => nn - (intOf iv).toNat)
      case atStart => exact ⟨0, Nat.zero_le _, rfl, HB.out⟩
      case round =>
        obtain ⟨k2, hk2, rfl, hb⟩ := hrel
        have HB2 : Hid (Below w5.heap.size w5 wr) := hb
        have G9 : Hid (Ground3 w x a c l w2.heap.size a' c' wr) := G5.out.below hb
        clear hb
        by_cases hlt2 : k2 < nn
        · obtain ⟨b, off, rfl, s0⟩ := (HN.out.below G9.out.one.low).cells k2 (by have := HN.out.len; omega)
          obtain ⟨s, hsd⟩ : ∃ s, ns[k2]'(by have := HN.out.len; omega) = s := ⟨_, rfl⟩
          rw [hsd] at s0
          have hne := later_some wr
          have d0 := later_cell s0
          have x0 := later_cell G9.out.lent.box.c0
          have x1 := later_cell G9.out.lent.box.c1
          have x2 := later_cell G9.out.lent.box.c2
          have y0 := later_cell G9.out.one.t.c0
          have y1 := later_cell G9.out.one.t.c1
          have y2 := later_cell G9.out.one.t.c2
          have hj0 : (0 : Int) ≤ (k2 : Int) := by omega
          have hjn : (k2 : Int) < (nn : Int) := by omega
          have hC1 : Hid (∀ W, Below wr.heap.size wr W → Calls Try.prog 20 #[.agg #[.string x.1, .int .i64 x.2, .slice a' (lenF l) c'], .string ⟨s.toArray⟩] W fun e w' => e = .returned (.bool (hasT ⟨s.toArray⟩ x l)) ∧ Below W.heap.size W w') := fun W hW => has_any x l a' c' _ W (G9.out.lent.own.tm.below hW) hM8
          have hC2 : Hid (∀ W, Below wr.heap.size wr W → Calls Try.prog 21 #[.agg #[.string x.1, .int .i64 x.2, .slice a (lenF l) c], .string ⟨s.toArray⟩] W fun e w' => e = .returned (.bool (hasT ⟨s.toArray⟩ x l)) ∧ Below W.heap.size W w') := fun W hW => by
            rw [← hasR_is]
            exact rhas_all _ _ x l a c W (Nat.le_refl _) ((HT.out.below G9.out.one.low).below hW)
          obtain ⟨hv, hhv⟩ : ∃ hv, hasT ⟨s.toArray⟩ x l = hv := ⟨_, rfl⟩
          rw [hhv] at hC1 hC2
          clear s0 hsd hhv
          go_wp2_with fail
          refine wp_region_later (by kernel_rfl) (by kernel_rfl) ?_
          repeat (go_big_quiet_step (first | (go_at_call 20; refine calls_later (hC1.out _ ?_); exact Later.below _) | (go_at_call 21; refine calls_later (hC2.out _ ?_); exact Later.below _)))
          refine wpQuiet_nil ?_
          intro _ hw'
          obtain ⟨b3, hw''⟩ := hw'
          subst hw''
          have HB3 : Hid (Below w5.heap.size w5 b3.now) := HB2.out.trans (b3.below.mono HB2.out.size)
          clear d0 x0 x1 x2 y0 y1 y2 hne hC1 hC2 G9
          go_wp2
          go_roundw
          case rel => exact ⟨k2 + 1, by omega, by go_num, HB3.out⟩
          case measure => simp [intOf]; omega
        · have C9 : Hid (Copied wr (fun k => w3.heap.size ≤ k) w4.heap.size x a2 c2 l) := C5.out.below HB2.out
          have x0 := C9.out.box.c0; have x1 := C9.out.box.c1; have x2 := C9.out.box.c2
          have hB9 : Hid (Below w3.heap.size w3 wr) := hb5.out.trans (HB2.out.mono hb5.out.size)
          go_wp2_with fail
          refine (spoil_any _ x l a2 c2 wr C9.out.sep).mono ?_
          rintro e w9 ⟨⟨v, rfl⟩, hf⟩
          have G10 : Hid (Ground3 w x a c l w2.heap.size a' c' w9) := G3.out.below (hB9.out.trans (hf.below (fun _ h => h) hB9.out.size))
          clear hf x0 x1 x2 C9 G9
          have x0 := G10.out.lent.box.c0; have x1 := G10.out.lent.box.c1; have x2 := G10.out.lent.box.c2
          have y0 := G10.out.one.t.c0; have y1 := G10.out.one.t.c1; have y2 := G10.out.one.t.c2
          go_wp2_with fail
          refine (kept_any _ x l a' a c' c w9 G10.out.lent.own (HT.out.below G10.out.one.low)).mono ?_
          rintro e w10 ⟨rfl, hb⟩
          have T10 : Hid (Below w.heap.size w w10) := G10.out.one.low.trans (hb.mono G10.out.one.low.size)
          clear hb x0 x1 x2 y0 y1 y2
          go_wp2
          go_ret
          exact ⟨rfl, T10.out⟩

/-- Texts that came in. -/
theorem texts_open {H : Type} {enc : TypeId × Value → H} {W : World} {a : Option Addr} {len cap : Nat} {d : DataW H} {p : List MemPlace}
    (h : DataW.Trod enc Try.prog W 0 (fun _ => true) true 33 (.slice a len cap) d p) : ∃ ss, TextsAt W a len ss ∧ len ≤ 9223372036854775807 := by
  obtain ⟨fuel, hf⟩ := h
  rcases DataW.trod_slice Try.underlying33 hf with ⟨hcs, _⟩ | ⟨x, l, c, elems, rest, n, _, hcs, hx, hb, hl, hm, hlen, hel, _, _⟩
  · simp [Value.cells] at hcs
    obtain ⟨rfl, rfl, rfl⟩ := hcs
    exact ⟨[], ⟨rfl, fun i hi => absurd hi (by simp)⟩, by omega⟩
  · simp [Value.cells] at hcs
    obtain ⟨rfl, rfl, rfl⟩ := hcs
    rw [Try.cells9] at hel
    have each : ∀ i, i < len → ∃ y : Nm, W.cells? 0 (x.add (i * 1)) 1 = some [.string ⟨y.toArray⟩] := by
      intro i hi
      have h1 := hel i hi
      rw [List.getElem?_eq_getElem (by omega)] at h1
      cases hc : W.cells? 0 (x.add (i * 1)) 1 with
      | none => rw [hc] at h1; cases h1
      | some cs =>
        rw [hc] at h1
        obtain ⟨s, e, _, _⟩ := DataW.trod_string Try.underlying9 h1
        exact ⟨s.data.toList, by rw [e]⟩
    obtain ⟨ll, hll, hp⟩ := list_of_each len each
    refine ⟨ll, ⟨hll.symm, fun i hi => ?_⟩, by unfold maxLen at *; omega⟩
    have h1 := hp i hi
    obtain ⟨b, off, spot⟩ := x
    have hspot : spot = none := by
      obtain ⟨_, _, h30⟩ := World.cells?_some (hp 0 (by omega))
      have := h30 0 (by omega)
      simpa [Addr.add] using World.cell?_spot this
    subst hspot
    refine ⟨b, off, rfl, ?_⟩
    rw [addr_add] at h1
    obtain ⟨_, _, h3⟩ := World.cells?_some h1
    have k0 := h3 0 (by omega)
    rw [addr_add] at k0
    simpa using k0

theorem termsTells_contract (H : Type) (enc : TypeId × Value → H) (W : World) (base : Nat) (args : Array Value) (ds gs : List (DataW H)) (before : List MemPlace)
    (hval : ∀ (j : Nat) t v, Try.f4.params[j]? = some t → args[j]? = some v → Value.okWide Try.prog W .any base t v)
    (hW : DataW.Whole enc Try.prog Try.f4.params.toList Rows.termsTellsSpec.vars false W args.toList ds gs before) (hk : Rows.uptoSmall H (ds ++ gs) = true) :
    Calls Try.prog 4 args W fun e W' => ∃ v, e = .returned v ∧ Rows.termsTellsSpec.post enc Try.prog Try.f4 false true false false W args v W' := by
  have hW' := hW
  obtain ⟨p, q, hA0, hV, rfl, hfz, hnd⟩ := hW
  have hA : DataW.TrodAll enc Try.prog W 0 (fun _ => true) true Try.f4.params.toList args.toList ds p := hA0
  rw [Try.params4] at hA hval
  obtain ⟨v0, vs0, d0, ds0, p0, q0, hargs, rfl, rfl, h0, r0⟩ := trodAll_cons hA
  obtain ⟨v1, vs1, d1, ds1, p1, q1, rfl, rfl, rfl, h1, r1⟩ := trodAll_cons r0
  obtain ⟨rfl, rfl, rfl⟩ := trodAll_nil r1
  obtain rfl : args = #[v0, v1] := by cases args; simp_all
  obtain ⟨rfl, rfl⟩ := trodVars_none hV
  have lt0 : ∀ x ∈ p0, x.block < W.heap.size := by obtain ⟨m, hm⟩ := h0; exact DataW.trod_lt m _ _ _ hm
  have lt1 : ∀ x ∈ p1, x.block < W.heap.size := by obtain ⟨m, hm⟩ := h1; exact DataW.trod_lt m _ _ _ hm
  have hbulk : Rows.uptoBulk d0 ≤ 1048576 := by
    have h : Rows.uptoBulkAll ([d0, d1] ++ []) ≤ 1048576 := of_decide_eq_true hk
    simp only [List.append_nil, Rows.uptoBulkAll] at h
    omega
  obtain ⟨x, a, ca, l, rfl, hx, hn⟩ := termv_open (hval 0 26 v0 rfl rfl) h0 (.inr hbulk)
  obtain ⟨na, nn, nc, rfl⟩ := okWide_slice Try.underlying33 (hval 1 33 v1 rfl rfl)
  obtain ⟨ns, hN, hnn⟩ := texts_open h1
  clear hA0
  refine (termsTells_walk x l a ca na nn nc ns W hx hN (by omega) hnn).mono fun e W' ⟨he, bel⟩ => ?_
  subst he
  exact ⟨_, rfl, _, _, _, [], _, [], hW', trodAll_mk1 (shut_bool Try.underlying4 _), (trodAll_cons_mk (Below.trod laidOut (by kernel_rfl) (of_decide_eq_true (by kernel_rfl)) h0 bel lt0) (trodAll_cons_mk (Below.trod laidOut (by kernel_rfl) (of_decide_eq_true (by kernel_rfl)) h1 bel lt1) trodAll_mk0)), rfl, bel.frame _, fun h => by cases h⟩

set_option maxRecDepth 100000 in
theorem termsTells_lifted (os : Os) (started : os.Started) (H : Type) (enc : TypeId × Value → H) (F : Stop.Interp) :
    ReturnsInHanded {} Try.checked os 4 .any ((Rows.OpenSpec.upto Rows.termsTellsSpec).pre6 enc Try.prog Try.f4 Rows.termsTellsUptoRow.domain false) (((Rows.OpenSpec.upto Rows.termsTellsSpec).at F).post enc Try.prog Try.f4 false true false false) := by
  refine returnsInHanded_of_cond (C := Try.checked) (s := Rows.OpenSpec.upto Rows.termsTellsSpec) (k := Rows.uptoSmall) rfl own started (by kernel_rfl) Try.func4
    (OpenSpec.witness (enc := enc) (C := Try.checked) (s := Rows.OpenSpec.upto Rows.termsTellsSpec) (k := Rows.uptoSmall) rfl false ⟨#[], #[.agg #[.string .empty, .int .i64 0, .slice none 0 0], .slice none 0 0], []⟩ 8 (by kernel_rfl) (by kernel_rfl) (by kernel_rfl)
      (x := ([.agg [.lit (.string []), .lit (.int .i64 0), .nil], .nil], [], [])) (by kernel_rfl) rfl (by kernel_rfl)) ?_
  intro W base args ds gs before hval hW _ hk _
  exact termsTells_contract H enc W base args ds gs before hval hW hk

theorem termsTells_holds : Rows.TermsTellsUptoSaid :=
  OpenClaim.holds_of_cond 4 Try.f4 rfl rfl rfl rfl rfl rfl rfl ⟨rfl, rfl, rfl, rfl, rfl⟩ rfl rfl rfl rfl rfl (by kernel_rfl) Try.func4 (by kernel_rfl)
    (of_decide_eq_true (by kernel_rfl)) (by unfold Func.isWrapper; first | (rw [if_pos (by decide +kernel)]; kernel_rfl) | (rw [if_neg (by decide +kernel)]; exact ⟨rfl, rfl⟩))
    (fun os started H enc _ F => termsTells_lifted os started H enc F)
end Go.Proofs.Ytmhdapgiealmfaa
