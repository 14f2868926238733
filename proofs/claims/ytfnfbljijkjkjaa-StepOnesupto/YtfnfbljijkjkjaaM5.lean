/- Texts laid together: RIs, EqOpen, RPl, TSizeB, LBase. -/
import Derived.Deep.AppendLies
import Derived.Deep.AppendSrc
import Derived.Test.YtfnfbljijkjkjaaM4
/- What the document's Same, Is, Equal and Right answer. -/
namespace Go.Proofs.Ytfnfbljijkjkjaa
open Go.RowKit Go.Deep

set_option maxRecDepth 100000 in
set_option maxHeartbeats 2000000 in
theorem rsame_any (x y : Tn) (a b : Option Addr) (c d : Nat) (w : World) (hS : TmAt w x.1 a c x.2) (hT : TmAt w y.1 b d y.2) :
    Calls Try.prog 26 #[.agg #[.string x.1.1, .int .i64 x.1.2, .slice a (lenF x.2) c], .agg #[.string y.1.1, .int .i64 y.1.2, .slice b (lenF y.2) d]] w fun e w' => e = .returned (.bool (cmpN x y == 0)) ∧ Below w.heap.size w w' := by
  obtain ⟨⟨xn, xs⟩, l⟩ := x
  obtain ⟨⟨yn, ys⟩, m⟩ := y
  obtain ⟨cv, hcv⟩ : ∃ cv, cmpN ((xn, xs), l) ((yn, ys), m) = cv := ⟨_, rfl⟩
  have PA : Hid (Pair w (xn, xs) a (lenF l) c (yn, ys) b (lenF m) d ((w.alloc (.cells #[.string xn, .int .i64 xs, .slice a (lenF l) c] 26)).alloc (.cells #[.string yn, .int .i64 ys, .slice b (lenF m) d] 26))) := Pair.new _ _ _ _ _ _ _ _ _
  have HC : Hid (∀ V, Below w.heap.size w V → Calls Try.prog 47 #[.agg #[.string xn, .int .i64 xs, .slice a (lenF l) c], .agg #[.string yn, .int .i64 ys, .slice b (lenF m) d]] V fun e w' => e = .returned (.int .i64 cv) ∧ Below V.heap.size V w') := fun V hV => by
    have := rcompare_all _ (xn, xs) (yn, ys) a b c d l m V (Nat.le_refl _) (hS.below hV) (hT.below hV)
    rw [show cmp1 (xn, xs) (yn, ys) (lenF l) (lenF m) (cmpF l m) = cv from hcv] at this
    exact this
  rw [hcv]
  clear hcv hS hT
  go_enter Try.func26, Try.ntmps26
  go_wp2_with (go_at_call 47; refine (HC.out _ PA.out.low).mono ?_; rintro e w1 ⟨rfl, hb1⟩; have HB1 : Hid (Below w.heap.size w w1) := PA.out.low.trans (hb1.mono PA.out.low.size); clear hb1)
  go_ret
  exact ⟨rfl, HB1.out⟩

set_option maxRecDepth 100000 in
set_option maxHeartbeats 2000000 in
theorem is_any (S : Option Addr) (n cap : Nat) (l : List Sym) (t : Tn) (a : Option Addr) (c : Nat) (w : World) (hS : SigAt w S n l) (hT : TmAt w t.1 a c t.2) (hk : nodesF t.2 ≤ 1048576) :
    Calls Try.prog 24 #[.slice S n cap, .agg #[.string t.1.1, .int .i64 t.1.2, .slice a (lenF t.2) c]] w fun e w' => e = .returned (.bool (exN (canonT (sgOf l) t).1 t.1 (canonT (sgOf l) t).2 t.2)) ∧ Below w.heap.size w w' := by
  obtain ⟨ct, hct⟩ : ∃ ct, canonT (sgOf l) t = ct := ⟨_, rfl⟩
  have HC : Hid (∀ W, Below w.heap.size w W → Calls Try.prog 46 #[.slice S n cap, .agg #[.string t.1.1, .int .i64 t.1.2, .slice a (lenF t.2) c]] W fun e w' => ∃ a' c', e = .returned (.agg #[.string ct.1.1, .int .i64 ct.1.2, .slice a' (lenF ct.2) c']) ∧ OwnTm false (fun q => W.heap.size ≤ q) w' ct.1 a' c' ct.2 ∧ Below W.heap.size W w') := fun W hW => by
    have := canon_all S n cap l 1048576 (Nat.le_refl _) t a c W hk (hS.below hW) (hT.below hW)
    rw [hct] at this
    exact this
  have HE : Hid (∀ W a' c', Below w.heap.size w W → TmAt W ct.1 a' c' ct.2 → Calls Try.prog 25 #[.agg #[.string ct.1.1, .int .i64 ct.1.2, .slice a' (lenF ct.2) c'], .agg #[.string t.1.1, .int .i64 t.1.2, .slice a (lenF t.2) c]] W fun e w' => e = .returned (.bool (exN ct.1 t.1 ct.2 t.2)) ∧ Below W.heap.size W w') := fun W a' c' hW hC => rexact_any ct t a' a c' c W hC (hT.below hW)
  have ON : Hid (TBox (w.alloc (.cells #[.string t.1.1, .int .i64 t.1.2, .slice a (lenF t.2) c] 26)) w.heap.size t.1 a (lenF t.2) c) := TBox.new w t.1 a (lenF t.2) c
  have HB0 : Hid (Below w.heap.size w (w.alloc (.cells #[.string t.1.1, .int .i64 t.1.2, .slice a (lenF t.2) c] 26))) := (Below.refl _ w).alloc (Nat.le_refl _) _
  rw [hct]
  clear hct hS hT
  go_enter Try.func24, Try.ntmps24
  go_wp2_with (first
    | (go_at_call 46; refine (HC.out _ HB0.out).mono ?_; rintro e w1 ⟨a', c', rfl, ho1, hb1⟩; have hba : Below w1.heap.size w1 (w1.alloc (.cells #[.string ct.1.1, .int .i64 ct.1.2, .slice a' (lenF ct.2) c'] 26)) := (Below.refl _ _).alloc (Nat.le_refl _) _; have hbb := hb1.trans (hba.mono hb1.size); have hbx := ON.out.below hbb; have c0 := hbx.c0; have c1 := hbx.c1; have c2 := hbx.c2; have HO1 : Hid (TmAt (w1.alloc (.cells #[.string ct.1.1, .int .i64 ct.1.2, .slice a' (lenF ct.2) c'] 26)) ct.1 a' c' ct.2) := ho1.tm.below hba; have HB1 : Hid (Below w.heap.size w (w1.alloc (.cells #[.string ct.1.1, .int .i64 ct.1.2, .slice a' (lenF ct.2) c'] 26))) := HB0.out.trans (hbb.mono HB0.out.size); clear ho1 hb1 hba hbb hbx)
    | (go_at_call 25; refine (HE.out _ _ _ HB1.out HO1.out).mono ?_; rintro e w2 ⟨rfl, hb2⟩; have HB2 : Hid (Below w.heap.size w w2) := HB1.out.trans (hb2.mono HB1.out.size); clear hb2))
  go_ret
  exact ⟨rfl, HB2.out⟩

set_option maxRecDepth 100000 in
set_option maxHeartbeats 2000000 in
theorem sright_any (S : Option Addr) (n cap : Nat) (l : List Sym) (w : World) (hS : SigAt w S n l) :
    Calls Try.prog 44 #[.slice S n cap] w fun e w' => e = .returned (.bool (checkE l == 0)) ∧ Below w.heap.size w w' := by
  have HC : Hid (Calls Try.prog 65 #[.slice S n cap] w fun e w' => CheckRet l e ∧ Below w.heap.size w w') := rcheck_any S n cap l w hS
  clear hS
  go_enter Try.func44, Try.ntmps44
  go_wp2_with (go_at_call 65; refine HC.out.mono ?_; rintro e w1 ⟨he, hb1⟩; unfold CheckRet at he; subst he; have HB1 : Hid (Below w.heap.size w w1) := hb1; clear hb1)
  go_ret
  exact ⟨rfl, HB1.out⟩
def rightB (l : List Sym) (t : Tn) : Bool := (checkE l == 0) && (errT l t.1 t.2 == 0)
set_option maxRecDepth 100000 in
set_option maxHeartbeats 2000000 in
theorem rright_any (S : Option Addr) (n cap : Nat) (l : List Sym) (t : Tn) (a : Option Addr) (c : Nat) (w : World) (hS : SigAt w S n l) (hT : TmAt w t.1 a c t.2) :
    Calls Try.prog 22 #[.slice S n cap, .agg #[.string t.1.1, .int .i64 t.1.2, .slice a (lenF t.2) c]] w fun e w' => e = .returned (.bool (rightB l t)) ∧ Below w.heap.size w w' := by
  obtain ⟨⟨tn, ts⟩, tl⟩ := t
  obtain ⟨ev, hev⟩ : ∃ ev, errT l (tn, ts) tl = ev := ⟨_, rfl⟩
  have ON : Hid (TBox (w.alloc (.cells #[.string tn, .int .i64 ts, .slice a (lenF tl) c] 26)) w.heap.size (tn, ts) a (lenF tl) c) := TBox.new w (tn, ts) a (lenF tl) c
  have HB0 : Hid (Below w.heap.size w (w.alloc (.cells #[.string tn, .int .i64 ts, .slice a (lenF tl) c] 26))) := (Below.refl _ w).alloc (Nat.le_refl _) _
  have HS : Hid (∀ W, Below w.heap.size w W → Calls Try.prog 44 #[.slice S n cap] W fun e w' => e = .returned (.bool (checkE l == 0)) ∧ Below W.heap.size W w') := fun W hW => sright_any S n cap l W (hS.below hW)
  have HN : Hid (∀ W, Below w.heap.size w W → Calls Try.prog 45 #[.slice S n cap, .agg #[.string tn, .int .i64 ts, .slice a (lenF tl) c]] W fun e w' => e = .returned (.int .i64 ev) ∧ Below W.heap.size W w') := fun W hW => by
    have := nodes_all l _ S n cap (tn, ts) tl a c W (Nat.le_refl _) (hS.below hW) (hT.below hW)
    rw [hev] at this
    exact this
  clear hS hT
  cases hc : (checkE l == 0)
  · have e : Hid (rightB l ((tn, ts), tl) = false) := by show _ = _; unfold rightB; rw [hc]; rfl
    rw [hc] at HS
    go_enter Try.func22, Try.ntmps22
    go_wp2_with (go_at_call 44; refine (HS.out _ HB0.out).mono ?_; rintro e w1 ⟨rfl, hb1⟩; have HB1 : Hid (Below w.heap.size w w1) := HB0.out.trans (hb1.mono HB0.out.size); have hbx := ON.out.below hb1; have c0 := hbx.c0; have c1 := hbx.c1; have c2 := hbx.c2; clear hb1 hbx)
    go_ret
    exact ⟨by rw [e.out]; rfl, HB1.out⟩
  · have e : Hid (rightB l ((tn, ts), tl) = (ev == 0)) := by show _ = _; unfold rightB; rw [hc, ← hev]; rfl
    rw [hc] at HS
    clear hev
    go_enter Try.func22, Try.ntmps22
    go_wp2_with (first
      | (go_at_call 44; refine (HS.out _ HB0.out).mono ?_; rintro e w1 ⟨rfl, hb1⟩; have HB1 : Hid (Below w.heap.size w w1) := HB0.out.trans (hb1.mono HB0.out.size); have hbx := ON.out.below hb1; have c0 := hbx.c0; have c1 := hbx.c1; have c2 := hbx.c2; clear hb1 hbx)
      | (go_at_call 45; refine (HN.out _ HB1.out).mono ?_; rintro e w2 ⟨rfl, hb2⟩; have HB2 : Hid (Below w.heap.size w w2) := HB1.out.trans (hb2.mono HB1.out.size); clear hb2))
    go_ret
    exact ⟨by rw [e.out]; rfl, HB2.out⟩
set_option maxRecDepth 100000 in
theorem right_facts {l : List Sym} {t : Tn} (h : rightB l t = true) : (sgOf l).Ok (arAt l) ∧ RightT (sgOf l) (arAt l) t := by
  unfold rightB at h
  simp only [Bool.and_eq_true, beq_iff_eq] at h
  exact ⟨sg_ok h.1, errT_right h.1 h.2⟩
end Go.Proofs.Ytfnfbljijkjkjaa
/- How a signature and an equation that came in are opened. -/
namespace Go.Proofs.Ytfnfbljijkjkjaa
open Go.ChangeShapes Go.WideShapes Go.ChangeAt Go.RowKit Go.Deep

set_option maxRecDepth 100000 in
theorem list_of_each {α : Type} {p : Nat → α → Prop} : ∀ n : Nat, (∀ i, i < n → ∃ x, p i x) → ∃ l : List α, l.length = n ∧ ∀ i (h : i < l.length), p i l[i]
  | 0, _ => ⟨[], rfl, fun i h => absurd h (by simp)⟩
  | n + 1, h => by
    obtain ⟨l, hl, hp⟩ := list_of_each n (fun i hi => h i (by omega))
    obtain ⟨x, hx⟩ := h n (by omega)
    refine ⟨l ++ [x], by simp [hl], fun i hi => ?_⟩
    by_cases hin : i < l.length
    · rw [List.getElem_append_left hin]; exact hp i hin
    · have : i = n := by simp at hi; omega
      subst this
      rw [List.getElem_append_right (by omega)]
      simpa [hl] using hx

set_option maxRecDepth 100000 in
theorem Try.cells57 : Try.prog.cellsOf 57 = 4 := by kernel_rfl
set_option maxRecDepth 100000 in
theorem Try.cells55 : Try.prog.cellsOf 55 = 1 := by kernel_rfl
set_option maxRecDepth 100000 in
theorem Try.bytes57 : Try.prog.bytesOf 57 = 48 := by kernel_rfl

set_option maxRecDepth 100000 in
/-- One symbol's reading. -/
theorem sym_open {H : Type} {enc : TypeId × Value → H} {W : World} {base : Nat} {spare : Nat → Bool} {held : Bool} {fuel : Nat} {cs : List Value} {x : DataW H × List MemPlace}
    (h : DataW.trod enc Try.prog W base spare held fuel 57 cs = some x) : ∃ y : Sym, cs = [.string y.name, .int .i64 y.kind, .int .i64 y.arity, .string y.unit] ∧ y.Fits := by
  obtain ⟨y0, y1, y2, y3, n, _, hl, h0, h1, h2, h3⟩ := Joins.trod_struct4 Try.underlying57 h
  rw [Try.cells57] at hl
  simp only [Try.cells9, Try.cells55, Try.cells3] at h0 h1 h2 h3
  match cs, hl with
  | [c0, c1, c2, c3], _ =>
    obtain ⟨s0, e0, _, f0⟩ := DataW.trod_string Try.underlying9 h0
    obtain ⟨n1, e1, _, _⟩ := DataW.trod_int Try.underlying55 h1
    obtain ⟨n2, e2, _, _⟩ := DataW.trod_int Try.underlying3 h2
    obtain ⟨s3, e3, _, f3⟩ := DataW.trod_string Try.underlying9 h3
    simp at e0 e1 e2 e3
    subst e0 e1 e2 e3
    exact ⟨⟨s0, n1, n2, s3⟩, rfl, f0, f3⟩

set_option maxRecDepth 100000 in
theorem sig_open {H : Type} {enc : TypeId × Value → H} {W : World} {fuel : Nat} {v : Value} {y : DataW H × List MemPlace}
    (hf : DataW.trod enc Try.prog W 0 (fun _ => true) true fuel 23 [v] = some y) :
    ∃ a len cap l, v = .slice a len cap ∧ SigAt W a len l ∧ len ≤ cap := by
  rcases DataW.trod_slice Try.underlying23 hf with ⟨hcs, _⟩ | ⟨x, len, cap, elems, rest, n, _, hcs, hx, hb, hl, hm, hlen, hel, _, _⟩
  · simp at hcs
    subst hcs
    exact ⟨none, 0, 0, [], rfl, ⟨rfl, by simp, fun i hi => absurd hi (by simp), fun s hs => absurd hs (by simp)⟩, Nat.le_refl _⟩
  · simp at hcs
    subst hcs
    rw [Try.cells57] at hel
    have each : ∀ i, i < len → ∃ y : Sym, (∃ cs, W.cells? 0 (x.add (i * 4)) 4 = some cs ∧ cs = [.string y.name, .int .i64 y.kind, .int .i64 y.arity, .string y.unit]) ∧ y.Fits := by
      intro i hi
      have h1 := hel i hi
      rw [List.getElem?_eq_getElem (by omega)] at h1
      cases hc : W.cells? 0 (x.add (i * 4)) 4 with
      | none => rw [hc] at h1; cases h1
      | some cs =>
        rw [hc] at h1
        obtain ⟨y, hy, hyf⟩ := sym_open h1
        exact ⟨y, ⟨cs, rfl, hy⟩, hyf⟩
    obtain ⟨ll, hll, hp⟩ := list_of_each len each
    refine ⟨some x, len, cap, ll, rfl, ⟨hll.symm, by omega, fun i hi => ?_, fun y hy => ?_⟩, hl⟩
    · obtain ⟨⟨cs, h1, h2⟩, _⟩ := hp i hi
      obtain ⟨b, off, spot⟩ := x
      have hspot : spot = none := by
        obtain ⟨⟨cs0, h10, h20⟩, _⟩ := hp 0 (by omega)
        obtain ⟨_, _, h30⟩ := World.cells?_some h10
        have := h30 0 (by omega)
        rw [h20] at this
        simpa [Addr.add] using World.cell?_spot this
      subst hspot
      refine ⟨b, off, rfl, ?_⟩
      rw [addr_add] at h1
      obtain ⟨_, _, h3⟩ := World.cells?_some h1
      subst h2
      have k0 := h3 0 (by omega)
      have k1 := h3 1 (by omega)
      have k2 := h3 2 (by omega)
      have k3 := h3 3 (by omega)
      rw [addr_add] at k0 k1 k2 k3
      exact ⟨k0, k1, k2, k3⟩
    · obtain ⟨i, hi, rfl⟩ := List.getElem_of_mem hy
      exact (hp i hi).2


set_option maxRecDepth 100000 in
theorem Try.cells28 : Try.prog.cellsOf 28 = 6 := by kernel_rfl
/-- An equation's value. -/
def eqC (A B : Tn) (a b : Option Addr) (c d : Nat) : List Value := [.string A.1.1, .int .i64 A.1.2, .slice a (lenF A.2) c, .string B.1.1, .int .i64 B.1.2, .slice b (lenF B.2) d]
set_option maxRecDepth 100000 in
theorem eq_trod {H : Type} {enc : TypeId × Value → H} {W : World} {fuel : Nat} {cl : List Value} {y : DataW H × List MemPlace} (hf : DataW.trod enc Try.prog W 0 (fun _ => true) true fuel 28 cl = some y) (hz : Rows.uptoBulk y.1 ≤ 1048576) :
    ∃ (A B : Tn) (a b : Option Addr) (c d : Nat), cl = eqC A B a b c d ∧ TmAt W A.1 a c A.2 ∧ TmAt W B.1 b d B.2 ∧ nodesF A.2 + nodesF B.2 + 3 ≤ Rows.uptoBulk y.1 := by
  obtain ⟨xs, n, hfuel, hx, hl, hlen, hff⟩ := DataW.trod_struct Try.underlying28 hf
  rw [Try.cells28] at hl
  match xs, hlen, cl, hl with
  | [y0, y1], _, [v0, v1, v2, v3, v4, v5], _ =>
    have g0 := hff 0 _ rfl
    have g1 := hff 1 _ rfl
    simp [Try.cells26] at g0 g1
    have hd : Rows.uptoBulk y0.1 + Rows.uptoBulk y1.1 + 1 ≤ Rows.uptoBulk y.1 := by
      have := congrArg Prod.fst hx
      simp only at this
      rw [this]
      simp only [List.map_cons, List.map_nil, Rows.uptoBulk, Rows.uptoBulkAll]
      omega
    obtain ⟨pa, a, c, la, ea, hA, na⟩ := term_open n _ _ g0 (.inr (by omega))
    obtain ⟨pb, b, d, lb, eb, hB, nb⟩ := term_open n _ _ g1 (.inr (by omega))
    simp at ea eb
    obtain ⟨rfl, rfl, rfl⟩ := ea
    obtain ⟨rfl, rfl, rfl⟩ := eb
    exact ⟨(pa, la), (pb, lb), a, b, c, d, rfl, hA, hB, by show nodesF la + nodesF lb + 3 ≤ _; omega⟩
set_option maxRecDepth 100000 in
theorem eq_open {H : Type} {enc : TypeId × Value → H} {W : World} {r : Reach} {b0 : Nat} {v : Value} {dd : DataW H} {ps : List MemPlace} (hv : Value.okWide Try.prog W r b0 28 v)
    (h : DataW.Trod enc Try.prog W 0 (fun _ => true) true 28 v dd ps) (hz : Rows.uptoBulk dd ≤ 1048576) :
    ∃ (A B : Tn) (a b : Option Addr) (c d : Nat), v = .agg (eqC A B a b c d).toArray ∧ TmAt W A.1 a c A.2 ∧ TmAt W B.1 b d B.2 ∧ nodesF A.2 + nodesF B.2 + 3 ≤ Rows.uptoBulk dd := by
  obtain ⟨cs, rfl, hsz⟩ := okWide_struct Try.underlying28 hv
  obtain ⟨fuel, hf⟩ := h
  obtain ⟨cl⟩ := cs
  obtain ⟨A, B, a, b, c, d, h1, h2⟩ := eq_trod hf hz
  simp only [Value.cells] at h1
  subst h1
  exact ⟨A, B, a, b, c, d, rfl, h2⟩
set_option maxRecDepth 100000 in
theorem sig_full {H : Type} {enc : TypeId × Value → H} {W : World} {v : Value} {dd : DataW H} {ps : List MemPlace} (hc : v.cells.toList = [v])
    (h : DataW.Trod enc Try.prog W 0 (fun _ => true) true 23 v dd ps) (hz : Rows.uptoBulk dd ≤ 1048576) :
    ∃ a len cap l, v = .slice a len cap ∧ SigAt W a len l ∧ len ≤ cap ∧ len ≤ 1048576 := by
  obtain ⟨fuel, hf⟩ := h
  rw [hc] at hf
  obtain ⟨a, len, cap, l, rfl, hS, hcap⟩ := sig_open hf
  refine ⟨a, len, cap, l, rfl, hS, hcap, ?_⟩
  rcases DataW.trod_slice Try.underlying23 hf with ⟨hcs, _⟩ | ⟨x, len2, cap2, elems, rest, n, _, hcs, hx, hb, hl, hm, hlen, hel, _, _⟩
  · simp at hcs
    omega
  · simp at hcs
    obtain ⟨rfl, rfl, rfl⟩ := hcs
    have := congrArg Prod.fst hx
    simp only at this
    rw [this] at hz
    simp only [Rows.uptoBulk] at hz
    have := bulk_len (elems.map (·.1))
    rw [List.length_map] at this
    omega
end Go.Proofs.Ytfnfbljijkjkjaa
/- What the document's Plain makes of a signature. -/
namespace Go.Proofs.Ytfnfbljijkjkjaa
open Go.RowKit

def Sym.cells (x : Sym) : List Value := [.string x.name, .int .i64 x.kind, .int .i64 x.arity, .string x.unit]
def symCells (l : List Sym) : List Value := l.flatMap Sym.cells

theorem symCells_nil : symCells [] = [] := rfl
theorem symCells_cons (x : Sym) (l : List Sym) : symCells (x :: l) = .string x.name :: .int .i64 x.kind :: .int .i64 x.arity :: .string x.unit :: symCells l := rfl
theorem symCells_append (l m : List Sym) : symCells (l ++ m) = symCells l ++ symCells m := by simp [symCells]
theorem symCells_one (x : Sym) : symCells [x] = [.string x.name, .int .i64 x.kind, .int .i64 x.arity, .string x.unit] := rfl
theorem symCells_length : ∀ l : List Sym, (symCells l).length = l.length * 4
  | [] => rfl
  | x :: l => by rw [symCells_cons]; simp [symCells_length l]; omega
theorem symCells_oneCell (l : List Sym) : ∀ u ∈ symCells l, u.oneCell' = true := by
  intro u hu
  simp only [symCells, List.mem_flatMap, Sym.cells, List.mem_cons, List.not_mem_nil, or_false] at hu
  obtain ⟨x, _, h | h | h | h⟩ := hu <;> subst h <;> rfl
theorem symCells_at : ∀ (l : List Sym) (i : Nat) (h : i < l.length),
    (symCells l)[i * 4]? = some (.string l[i].name) ∧ (symCells l)[i * 4 + 1]? = some (.int .i64 l[i].kind) ∧ (symCells l)[i * 4 + 2]? = some (.int .i64 l[i].arity) ∧ (symCells l)[i * 4 + 3]? = some (.string l[i].unit)
  | [], i, h => absurd h (by simp)
  | x :: l, 0, h => by rw [symCells_cons]; simp
  | x :: l, i + 1, h => by
    have ih := symCells_at l i (by simpa using h)
    rw [symCells_cons]
    rw [show (i + 1) * 4 = i * 4 + 1 + 1 + 1 + 1 by omega, show i * 4 + 1 + 1 + 1 + 1 + 1 = (i * 4 + 1) + 1 + 1 + 1 + 1 by omega, show i * 4 + 1 + 1 + 1 + 1 + 2 = (i * 4 + 2) + 1 + 1 + 1 + 1 by omega, show i * 4 + 1 + 1 + 1 + 1 + 3 = (i * 4 + 3) + 1 + 1 + 1 + 1 by omega]
    simp only [List.getElem?_cons_succ, List.getElem_cons_succ]
    exact ih

/-- Where a signature lies, as one row of cells. -/
theorem news_of_syms {w : World} {b : Nat} : ∀ (l : List Sym) (off : Nat), (∀ i (h : i < l.length), SymAt w b (off + i * 4) l[i]) → ∀ j u, (symCells l)[j]? = some u → w.cell? ⟨b, off + j, none⟩ = some u
  | [], _, _, j, u, hu => by simp [symCells_nil] at hu
  | x :: l, off, h, j, u, hu => by
    have h0 := h 0 (by simp)
    simp only [Nat.zero_mul, Nat.add_zero, List.getElem_cons_zero] at h0
    rw [symCells_cons] at hu
    match j, hu with
    | 0, hu => simp at hu; subst hu; exact h0.name
    | 1, hu => simp at hu; subst hu; exact h0.kind
    | 2, hu => simp at hu; subst hu; exact h0.arity
    | 3, hu => simp at hu; subst hu; exact h0.unit
    | j + 4, hu =>
      simp only [List.getElem?_cons_succ] at hu
      have := news_of_syms l (off + 4) (fun i hi => by
        have := h (i + 1) (by simpa using hi)
        simp only [List.getElem_cons_succ] at this
        rw [show off + 4 + i * 4 = off + (i + 1) * 4 by omega]
        exact this) j u hu
      rw [show off + (j + 4) = off + 4 + j by omega]
      exact this

/-- A row that is known whole holds the signature. -/
theorem sigAt_of_row {w : World} {g n : Nat} {l : List Sym} {cur : Array Value} {e : TypeId} {fr : Nat × Nat} (hh : w.heap[g]? = some (.cells cur e fr)) (hn : n = l.length) (hm : n ≤ maxLen) (hc : cur.toList.take (n * 4) = symCells l) (hf : ∀ x ∈ l, x.Fits) :
    SigAt w (some ⟨g, 0, none⟩) n l := by
  refine ⟨hn, hm, fun i hi => ⟨g, 0, rfl, ?_⟩, hf⟩
  have hat := symCells_at l i hi
  have key : ∀ j, j < n * 4 → w.cell? ⟨g, 0 + j, none⟩ = (symCells l)[j]? := by
    intro j hj
    rw [Nat.zero_add, cell_of_row w g j cur e fr hh, ← hc, List.getElem?_take_of_lt hj]
    simp
  exact ⟨by rw [key _ (by omega)]; exact hat.1, by rw [Nat.add_assoc, key _ (by omega)]; exact hat.2.1, by rw [Nat.add_assoc, key _ (by omega)]; exact hat.2.2.1, by rw [Nat.add_assoc, key _ (by omega)]; exact hat.2.2.2⟩

theorem sigAt_of_owns {w : World} {base g n cap : Nat} {l : List Sym} (h : w.ownsRow base 57 4 (.slice (some ⟨g, 0, none⟩) n cap) n (symCells l)) (hm : n ≤ maxLen) (hf : ∀ x ∈ l, x.Fits) : SigAt w (some ⟨g, 0, none⟩) n l := by
  obtain ⟨hl, h⟩ := h
  rw [symCells_length] at hl
  rcases h with ⟨hv, _⟩ | ⟨g', cap', cur, hv, _, hh, hnc, _, hsz, hcur⟩
  · cases hv
  · simp only [Value.slice.injEq, Option.some.injEq, Addr.mk.injEq, and_true, true_and] at hv
    obtain ⟨rfl, rfl⟩ := hv
    exact sigAt_of_row hh (by omega) hm hcur hf

theorem Try.info57 : (Try.prog.info? 57).map (fun i => (i.zero, i.size, i.bytes)) = some (some (.agg #[.string ⟨#[]⟩, .int .i64 0, .int .i64 0, .string ⟨#[]⟩]), 4, 48) := by kernel_rfl

def plainS (x : Sym) : Sym := if x.kind = 3 then ⟨x.name, 2, x.arity, ⟨#[]⟩⟩ else x
theorem plainS_not {x : Sym} (h : x.kind ≠ 3) : plainS x = x := by simp [plainS, h]
theorem plainS_is {x : Sym} (h : x.kind = 3) : plainS x = ⟨x.name, 2, x.arity, ⟨#[]⟩⟩ := by simp [plainS, h]
theorem plainS_fits {x : Sym} (h : x.Fits) : (plainS x).Fits := by
  unfold plainS
  split
  · exact ⟨h.name, by show ByteArray.size ⟨#[]⟩ ≤ maxLen; decide⟩
  · exact h


theorem sym_news (w : World) (H : Nat) (hH : w.heap.size = H) (y : Sym) : ∀ j u, (symCells [y])[j]? = some u → (w.alloc (.cells #[.string y.name, .int .i64 y.kind, .int .i64 y.arity, .string y.unit] 57)).cell? ((⟨H, 0, none⟩ : Addr).add j) = some u := by
  subst hH
  exact World.news_of_block (cs := #[.string y.name, .int .i64 y.kind, .int .i64 y.arity, .string y.unit]) (t := 57) (fr := (0, 0)) (heap_alloc_new w _)
theorem sigAt_of_owns_any {w : World} {base n : Nat} {v : Value} {l : List Sym} (h : w.ownsRow base 57 4 v n (symCells l)) (hm : n ≤ maxLen) (hf : ∀ x ∈ l, x.Fits) : ∃ a cap, v = .slice a n cap ∧ SigAt w a n l := by
  rcases h.2 with ⟨hv, h0⟩ | ⟨g, cap, cur, hv, _⟩
  · have hl := h.1
    rw [symCells_length, h0] at hl
    have : l = [] := List.length_eq_zero_iff.1 (by omega)
    subst this
    exact ⟨none, 0, by rw [hv, h0], by simp [h0], by omega, fun i hi => absurd hi (by simp), fun x hx => absurd hx (by simp)⟩
  · subst hv
    exact ⟨_, _, rfl, sigAt_of_owns h hm hf⟩
theorem plain_succ {l : List Sym} {k : Nat} (hk : k < l.length) : symCells ((l.take (k + 1)).map plainS) = symCells ((l.take k).map plainS) ++ symCells [plainS l[k]] := by
  rw [List.take_succ_eq_append_getElem hk, List.map_append, symCells_append]; rfl

theorem own_base {w : World} {base n : Nat} {e : TypeId} {z : Nat} {v : Value} {xs : List Value} (h : w.ownsRow base e z v n xs) : ∀ k, v.ownBlock = some k → base ≤ k := by
  intro k hk
  rcases h.2 with ⟨hv, _⟩ | ⟨g, cap, cur, hv, hb, _⟩
  · subst hv; cases hk
  · subst hv; cases hk; exact hb

set_option maxHeartbeats 400000 in
theorem rplain_any (a : Option Addr) (n cap : Nat) (l : List Sym) (w : World) (h : SigAt w a n l) (hr : n * 48 ≤ 140737488351232) :
    Calls Try.prog 23 #[.slice a n cap] w fun e w' => ∃ a' cap', e = .returned (.slice a' n cap') ∧ SigAt w' a' n (l.map plainS) ∧ Below w.heap.size w w' := by
  obtain ⟨i0, hi, hz0, hz1, hz2⟩ := info_parts Try.info57
  have HS : Hid (SigAt w a n l) := h
  have hlen : Hid (n = l.length) := h.len
  clear h
  go_enter Try.func23, Try.ntmps23
  go_wp2
  go_loopw [3, 4, 5] (fun v i _ w' => ∃ k : Nat, k ≤ n ∧ i = .int .i64 k ∧ w'.ownsRow w.heap.size 57 4 v k (symCells ((l.take k).map plainS)) ∧ Below w.heap.size w w') (fun _ i _ _ => n - (intOf i).toNat)
  case atStart => exact ⟨0, Nat.zero_le _, rfl, World.ownsRow_nil _ _ _ _, Below.refl _ _⟩
  case round =>
    obtain ⟨k, hk, rfl, hown, hb⟩ := hrel
    have HB : Hid (Below w.heap.size w wr) := hb
    by_cases hlt : k < n
    · have hlk : k < l.length := by have := hlen.out; omega
      obtain ⟨b, off, rfl, hsym⟩ := HS.out.cells k hlk
      have hw := hsym.below hb
      have c0 := hw.name
      have c1 := hw.kind
      have c2 := hw.arity
      have c3 := hw.unit
      clear hw hsym hb
      cases hk3 : (l[k].kind == 3)
      · have hp : Hid (l[k] = plainS l[k]) := (plainS_not (by simpa using hk3)).symm
        go_wp2_with (at_builtin; refine wpList_append_lies _ rfl (.tmp 21) (.tmp 23) 23 rfl w.heap.size 57 i0 _ 4 48 Try.underlying23 hi hz0 hz1 hz2 rfl (by decide) u3 k _ rfl ((hown.alloc _).alloc _) ⟨wr.heap.size + 1, 0, none⟩ 1 1 (symCells [l[k]]) rfl rfl (sym_news _ _ (by simp) _) (symCells_oneCell _) (by decide) (by unfold maxLen; omega) (by omega) (by have := HB.out.size; simp; omega) (wr.heap.size + 2) (by simp) ?_; intro g1 cap1 w1 hown1 hgrow1 hat1 hlt1)
        have HB2 := ((HB.out.alloc HB.out.size _).alloc (by have := HB.out.size; simp; omega) _).grown hgrow1 (by have := HB.out.size; simp; omega) (own_base hown)
        go_roundw
        case rel => exact ⟨k + 1, by omega, by go_num, by rw [plain_succ hlk, ← hp.out]; exact hown1, HB2⟩
        case measure => simp [intOf]; omega
      · have hp : Hid ((⟨l[k].name, 2, l[k].arity, ⟨#[]⟩⟩ : Sym) = plainS l[k]) := (plainS_is (by simpa using hk3)).symm
        go_wp2_with (at_builtin; refine wpList_append_lies _ rfl (.tmp 21) (.tmp 23) 23 rfl w.heap.size 57 i0 _ 4 48 Try.underlying23 hi hz0 hz1 hz2 rfl (by decide) u3 k _ rfl ((hown.alloc _).alloc _) ⟨wr.heap.size + 1, 0, none⟩ 1 1 (symCells [⟨l[k].name, 2, l[k].arity, ⟨#[]⟩⟩]) rfl rfl (sym_news _ _ (by simp) _) (symCells_oneCell _) (by decide) (by unfold maxLen; omega) (by omega) (by have := HB.out.size; simp; omega) (wr.heap.size + 2) (by simp) ?_; intro g1 cap1 w1 hown1 hgrow1 hat1 hlt1)
        have HB2 := ((HB.out.alloc HB.out.size _).alloc (by have := HB.out.size; simp; omega) _).grown hgrow1 (by have := HB.out.size; simp; omega) (own_base hown)
        go_roundw
        case rel => exact ⟨k + 1, by omega, by go_num, by rw [plain_succ hlk, ← hp.out]; exact hown1, HB2⟩
        case measure => simp [intOf]; omega
    · have hkn : Hid (k = n) := by show k = n; omega
      have hfin : Hid (∃ a' cap', u3 = .slice a' n cap' ∧ SigAt wr a' n (l.map plainS)) := by
        have h1 := hown
        rw [hkn.out, List.take_of_length_le (by have := hlen.out; omega)] at h1
        exact sigAt_of_owns_any h1 (by unfold maxLen; omega) (fun x hx => by
          obtain ⟨y, hy, rfl⟩ := List.mem_map.1 hx
          exact plainS_fits (HS.out.fits y hy))
      clear hown hb
      go_wp2
      go_ret
      obtain ⟨a', cap', hv, hs⟩ := hfin.out
      exact ⟨a', cap', by rw [← hv]; rfl, hs, HB.out⟩
end Go.Proofs.Ytfnfbljijkjkjaa
/- Size of package terms. -/
namespace Go.Proofs.Ytfnfbljijkjkjaa
open Go.RowKit Go.Shelf Go.Deep

attribute [local go_sem] Oper.semAt_some


set_option maxRecDepth 100000 in
set_option maxHeartbeats 2000000 in
theorem size_any (x : ByteArray × Int) (l : Fo) (a : Option Addr) (c : Nat) (w : World) (hT : TmAt w x a c l) (hM : (nodesF l + 2) * 8 ≤ 140737488355328) :
    Calls Try.prog 54 #[.agg #[.string x.1, .int .i64 x.2, .slice a (lenF l) c]] w fun e w' => e = .returned (.int .i64 ((nodesF l + 1 : Nat) : Int)) ∧ Below w.heap.size w w' := by
  refine (callsIn_wide (n := 6)).1 ?_
  have h1 : 1 ≤ 6 := by omega
  refine callsIn_of_wp_marks Try.func54 rfl trivial ?_ rfl
  simp only [Try.ntmps54, List.size_toArray, List.length_cons, List.length_nil, Nat.reduceAdd, Nat.reduceSub, Array.replicate_succ, Array.replicate_zero, List.push_toArray, List.append_toArray, List.nil_append, List.cons_append]
  gi_wp2_with fail
  refine ⟨trivial, ?_⟩
  refine (callsIn_wide.2 (places_any x a (lenF l) c _)).mono ?_
  rintro e w' ⟨rfl, rfl⟩
  gi_wp2
  have bN := (Boxed.new (w.alloc (.cells #[.string x.1, .int .i64 x.2, .slice a (lenF l) c] 26)) 3 (.int .i64 0)).alloc (.cells #[.string x.1, .int .i64 x.2, .slice a (lenF l) c] 26)
  have bT := TBox.new ((w.alloc (.cells #[.string x.1, .int .i64 x.2, .slice a (lenF l) c] 26)).alloc (.cells #[.int .i64 0] 3)) x a (lenF l) c
  simp only [World.size_alloc] at bN bT
  have hB0 : Below w.heap.size w (((w.alloc (.cells #[.string x.1, .int .i64 x.2, .slice a (lenF l) c] 26)).alloc (.cells #[.int .i64 0] 3)).alloc (.cells #[.string x.1, .int .i64 x.2, .slice a (lenF l) c] 26)) := (((Below.refl _ w).alloc (Nat.le_refl _) _).alloc (by simp) _).alloc (by simp; omega) _
  have hsz : (((w.alloc (.cells #[.string x.1, .int .i64 x.2, .slice a (lenF l) c] 26)).alloc (.cells #[.int .i64 0] 3)).alloc (.cells #[.string x.1, .int .i64 x.2, .slice a (lenF l) c] 26)).heap.size = w.heap.size + 3 := by simp
  obtain ⟨W0, hW0⟩ : ∃ W0, ((w.alloc (.cells #[.string x.1, .int .i64 x.2, .slice a (lenF l) c] 26)).alloc (.cells #[.int .i64 0] 3)).alloc (.cells #[.string x.1, .int .i64 x.2, .slice a (lenF l) c] 26) = W0 := ⟨_, rfl⟩
  rw [hW0] at bN bT hB0 hsz ⊢
  clear hW0
  refine range_own (gf := 95) (lb := #[.pointer (some ⟨w.heap.size + 1 + 1, 0, none⟩)]) rfl (enters_of Try.func95 (by kernel_rfl) rfl)
    (places1_seq w W0 (nodesF l + 1) (w.heap.size + 1 + 1) x l a c hT bT hB0 (by omega)) (Below.refl _ _) (fun _ => rfl)
    (fun _ _ _ h hc => h.cl hc) (fun _ _ _ hc => Leaves.of_cl hc (by omega)) (fun _ _ _ _ h k => h.trans k)
    (fun pre W => (Boxed W (w.heap.size + 1) 3 (.int .i64 (pre.length : Int)) ∧ Below w.heap.size w W) ∧ pre.length ≤ nodesF l + 1)
    (fun _ _ _ => False)
    (fun _ _ _ h hm => ⟨⟨boxed_mv h.1.1 hm (by omega), below_mv h.1.2 hm (by omega)⟩, h.2⟩)
    (fun _ _ _ _ h _ => h) (fun _ _ h => h.2) ⟨⟨bN, hB0⟩, by simp⟩
    (fun e a' _ => a' = { tmps := #[.agg #[.string x.1, .int .i64 x.2, .slice a (lenF l) c], .pointer (some ⟨w.heap.size, 0, none⟩), .int .i64 0, .pointer (some ⟨w.heap.size + 1, 0, none⟩), .agg #[.string x.1, .int .i64 x.2, .slice a (lenF l) c], .func (.func 95) #[] #[.pointer (some ⟨w.heap.size + 1 + 1, 0, none⟩)], e.pv, .agg #[.string e.x.1, .int .i64 e.x.2, .slice e.a (lenF e.l) e.c], undef, undef, undef], defers := [] })
    (fun _ _ _ _ h _ => h) ?assign ?body ?done ?stop
  case assign =>
    rintro pre e W K _ _ hK m
    simp only [El.encs]
    gi_wp2
    exact hK _ _ (Below.refl _ _) (by simp)
  case body =>
    rintro pre e a' W _ ⟨⟨bn, hB⟩, hl⟩ hF rfl hlt m
    have cn := bn.cell
    have fn := bn.frozen
    gi_wp2
    refine ⟨(KeepsOthers.setCell _ _ _).from _, Leaves.set hF bn (by omega) (by omega) (by decide) (by decide) (by decide) (by decide) _, ⟨?_, hB.setCell (p := ⟨w.heap.size + 1, 0, none⟩) (by show _ ≤ w.heap.size + 1; omega) _⟩, by simp; omega⟩
    rw [List.length_append, List.length_singleton, Int.natCast_add]
    exact bn.set _
  case done =>
    rintro ys W hS ⟨⟨bn, hB⟩, _⟩ hK
    have cn := bn.cell
    have hl : ys.length = nodesF l + 1 := by
      have := congrArg List.length hS
      rw [List.length_map, placesT, List.length_cons, places_len] at this
      exact this
    rw [hl] at cn
    gi_wp2
    refine ⟨by simp, .inl ⟨_, _, rfl, run_takeDeferred hK, ?_⟩⟩
    exact ⟨_, results_tmp rfl _ _ _, rfl, hB.trans (below_putObj _ (by omega) _)⟩
  case stop =>
    rintro c pre W _ h _
    exact h.elim
end Go.Proofs.Ytfnfbljijkjkjaa
/- What the laws of this layer rest on: the texts carried from the layers below. -/
namespace Go.Proofs.Ytfnfbljijkjkjaa
end Go.Proofs.Ytfnfbljijkjkjaa
