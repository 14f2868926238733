/- Texts laid together: RChk, RIs, RTwo, RApp, RAppB, PHead, TOpen, TwoOpen, LPl, LIn, LBase. -/
import Derived.Deep.RegionHeld3
import Derived.Deep.DeepCutAuto
import Derived.Test.YtlemkgdbefmeeaaRows
import Derived.Lib.SmallJoins
import Derived.SizedLaws
import Derived.ProofKit
import Derived.OpenShut
import Derived.ShutString
import Derived.ChangeOld
import Derived.SliceStrings
import Derived.ChangeMaps5
import Derived.JoinedCond
import Derived.Test.YtlemkgdbefmeeaaM6
/- What the document's Check and Same answer, and what kept answers of a signature that reads as it did. -/
namespace Go.Proofs.Ytlemkgdbefmeeaa
open Go.RowKit

def CheckRet (l : List Sym) (e : Ending) : Prop := e = .returned (.tuple #[.int .i64 (checkE l), .int .i64 (checkP l)])

set_option maxHeartbeats 400000 in
theorem rcheck_any (a : Option Addr) (n cap : Nat) (l : List Sym) (w : World) (h : SigAt w a n l) :
    Calls Try.prog 62 #[.slice a n cap] w fun e w' => CheckRet l e ∧ Below w.heap.size w w' := by
  have HS : Hid (SigAt w a n l) := h
  have hm := h.small
  unfold maxLen at hm
  clear h
  by_cases h16 : (16 : Int) < n
  · have hl16 : Hid (16 < l.length) := by show _ < _; have := HS.out.len; omega
    go_enter Try.func62, Try.ntmps62
    go_wp2
    go_ret2
    exact ⟨by have := hl16.out; simp [CheckRet, checkE, checkP, this], Below.refl _ _⟩
  · have hl16 : Hid (¬ 16 < l.length) := by show ¬ _; have := HS.out.len; omega
    go_enter Try.func62, Try.ntmps62
    go_wp2
    go_loopw [4, 5] (fun i _ w' => ∃ k : Nat, k ≤ n ∧ i = .int .i64 k ∧ Below w.heap.size w w' ∧ ∀ j, j < k → errAt l j = 0) (fun i _ _ => n - (intOf i).toNat)
    case atStart => exact ⟨0, Nat.zero_le _, rfl, Below.refl _ _, fun j h => absurd h (by omega)⟩
    case round =>
      obtain ⟨k, hk, rfl, hb, hno⟩ := hrel
      have HN : Hid (∀ j, j < k → errAt l j = 0) := hno
      have HB : Hid (Below w.heap.size w wr) := hb
      clear hno hb
      by_cases hlt : k < n
      · have hlk : k < l.length := by have := HS.out.len; omega
        have HC : Hid (∀ W, SigAt W a n l → Calls Try.prog 80 #[.slice a n cap, .int .i64 k] W fun e w' => e = .returned (.int .i64 (errAt l k)) ∧ Below W.heap.size W w') := by
          intro W hW
          have := rsymbol_any a n cap l k hlk W hW
          rw [show symErr (l.take k) l[k] = errAt l k by unfold errAt; rw [dif_pos hlk]] at this
          exact this
        cases he : (errAt l k != 0)
        · have he' : Hid (errAt l k = 0) := by show _ = _; simpa using he
          go_wp2_with fail
          refine (HC.out _ (HS.out.below HB.out)).mono ?_
          rintro e w2 ⟨rfl, hb2⟩
          have HB2 : Hid (Below w.heap.size w w2) := HB.out.trans (hb2.mono HB.out.size)
          clear hb2
          go_wp2
          go_roundw
          case rel => exact ⟨k + 1, by omega, by go_num, HB2.out, fun j hj => by
            rcases Nat.lt_succ_iff_lt_or_eq.1 hj with hj | rfl
            · exact HN.out j hj
            · exact he'.out⟩
          case measure => simp [intOf]; omega
        · have hf : Hid (firstErr l = some k) := firstErr_hit hlk (by simpa using he) HN.out
          go_wp2_with fail
          refine (HC.out _ (HS.out.below HB.out)).mono ?_
          rintro e w2 ⟨rfl, hb2⟩
          have HB2 : Hid (Below w.heap.size w w2) := HB.out.trans (hb2.mono HB.out.size)
          clear hb2
          go_wp2
          go_ret2
          exact ⟨by unfold CheckRet; rw [checkE_hit hl16.out hf.out, checkP_hit hl16.out hf.out]; rfl, HB2.out⟩
      · have hf : Hid (firstErr l = none) := firstErr_miss fun j hj => HN.out j (by have := HS.out.len; omega)
        go_wp2
        go_ret2
        exact ⟨by unfold CheckRet; rw [checkE_miss hl16.out hf.out, checkP_miss hl16.out hf.out]; rfl, HB.out⟩

end Go.Proofs.Ytlemkgdbefmeeaa
/- What the document's Same, Is, Equal and Right answer. -/
namespace Go.Proofs.Ytlemkgdbefmeeaa
open Go.RowKit Go.Deep

set_option maxRecDepth 100000 in
set_option maxHeartbeats 2000000 in
theorem rsame_any (x y : Tn) (a b : Option Addr) (c d : Nat) (w : World) (hS : TmAt w x.1 a c x.2) (hT : TmAt w y.1 b d y.2) :
    Calls Try.prog 36 #[.agg #[.string x.1.1, .int .i64 x.1.2, .slice a (lenF x.2) c], .agg #[.string y.1.1, .int .i64 y.1.2, .slice b (lenF y.2) d]] w fun e w' => e = .returned (.bool (cmpN x y == 0)) ∧ Below w.heap.size w w' := by
  obtain ⟨⟨xn, xs⟩, l⟩ := x
  obtain ⟨⟨yn, ys⟩, m⟩ := y
  obtain ⟨cv, hcv⟩ : ∃ cv, cmpN ((xn, xs), l) ((yn, ys), m) = cv := ⟨_, rfl⟩
  have PA : Hid (Pair w (xn, xs) a (lenF l) c (yn, ys) b (lenF m) d ((w.alloc (.cells #[.string xn, .int .i64 xs, .slice a (lenF l) c] 26)).alloc (.cells #[.string yn, .int .i64 ys, .slice b (lenF m) d] 26))) := Pair.new _ _ _ _ _ _ _ _ _
  have HC : Hid (∀ V, Below w.heap.size w V → Calls Try.prog 53 #[.agg #[.string xn, .int .i64 xs, .slice a (lenF l) c], .agg #[.string yn, .int .i64 ys, .slice b (lenF m) d]] V fun e w' => e = .returned (.int .i64 cv) ∧ Below V.heap.size V w') := fun V hV => by
    have := rcompare_all _ (xn, xs) (yn, ys) a b c d l m V (Nat.le_refl _) (hS.below hV) (hT.below hV)
    rw [show cmp1 (xn, xs) (yn, ys) (lenF l) (lenF m) (cmpF l m) = cv from hcv] at this
    exact this
  rw [hcv]
  clear hcv hS hT
  go_enter Try.func36, Try.ntmps36
  go_wp2_with (go_at_call 53; refine (HC.out _ PA.out.low).mono ?_; rintro e w1 ⟨rfl, hb1⟩; have HB1 : Hid (Below w.heap.size w w1) := PA.out.low.trans (hb1.mono PA.out.low.size); clear hb1)
  go_ret
  exact ⟨rfl, HB1.out⟩

set_option maxRecDepth 100000 in
set_option maxHeartbeats 2000000 in
theorem is_any (S : Option Addr) (n cap : Nat) (l : List Sym) (t : Tn) (a : Option Addr) (c : Nat) (w : World) (hS : SigAt w S n l) (hT : TmAt w t.1 a c t.2) (hk : nodesF t.2 ≤ 1048576) :
    Calls Try.prog 19 #[.slice S n cap, .agg #[.string t.1.1, .int .i64 t.1.2, .slice a (lenF t.2) c]] w fun e w' => e = .returned (.bool (exN (canonT (sgOf l) t).1 t.1 (canonT (sgOf l) t).2 t.2)) ∧ Below w.heap.size w w' := by
  obtain ⟨ct, hct⟩ : ∃ ct, canonT (sgOf l) t = ct := ⟨_, rfl⟩
  have HC : Hid (∀ W, Below w.heap.size w W → Calls Try.prog 16 #[.slice S n cap, .agg #[.string t.1.1, .int .i64 t.1.2, .slice a (lenF t.2) c]] W fun e w' => ∃ a' c', e = .returned (.agg #[.string ct.1.1, .int .i64 ct.1.2, .slice a' (lenF ct.2) c']) ∧ OwnTm false (fun q => W.heap.size ≤ q) w' ct.1 a' c' ct.2 ∧ Below W.heap.size W w') := fun W hW => by
    have := canon_all S n cap l 1048576 (Nat.le_refl _) t a c W hk (hS.below hW) (hT.below hW)
    rw [hct] at this
    exact this
  have HE : Hid (∀ W a' c', Below w.heap.size w W → TmAt W ct.1 a' c' ct.2 → Calls Try.prog 17 #[.agg #[.string ct.1.1, .int .i64 ct.1.2, .slice a' (lenF ct.2) c'], .agg #[.string t.1.1, .int .i64 t.1.2, .slice a (lenF t.2) c]] W fun e w' => e = .returned (.bool (exN ct.1 t.1 ct.2 t.2)) ∧ Below W.heap.size W w') := fun W a' c' hW hC => rexact_any ct t a' a c' c W hC (hT.below hW)
  have ON : Hid (TBox (w.alloc (.cells #[.string t.1.1, .int .i64 t.1.2, .slice a (lenF t.2) c] 26)) w.heap.size t.1 a (lenF t.2) c) := TBox.new w t.1 a (lenF t.2) c
  have HB0 : Hid (Below w.heap.size w (w.alloc (.cells #[.string t.1.1, .int .i64 t.1.2, .slice a (lenF t.2) c] 26))) := (Below.refl _ w).alloc (Nat.le_refl _) _
  rw [hct]
  clear hct hS hT
  go_enter Try.func19, Try.ntmps19
  go_wp2_with (first
    | (go_at_call 16; refine (HC.out _ HB0.out).mono ?_; rintro e w1 ⟨a', c', rfl, ho1, hb1⟩; have hba : Below w1.heap.size w1 (w1.alloc (.cells #[.string ct.1.1, .int .i64 ct.1.2, .slice a' (lenF ct.2) c'] 26)) := (Below.refl _ _).alloc (Nat.le_refl _) _; have hbb := hb1.trans (hba.mono hb1.size); have hbx := ON.out.below hbb; have c0 := hbx.c0; have c1 := hbx.c1; have c2 := hbx.c2; have HO1 : Hid (TmAt (w1.alloc (.cells #[.string ct.1.1, .int .i64 ct.1.2, .slice a' (lenF ct.2) c'] 26)) ct.1 a' c' ct.2) := ho1.tm.below hba; have HB1 : Hid (Below w.heap.size w (w1.alloc (.cells #[.string ct.1.1, .int .i64 ct.1.2, .slice a' (lenF ct.2) c'] 26))) := HB0.out.trans (hbb.mono HB0.out.size); clear ho1 hb1 hba hbb hbx)
    | (go_at_call 17; refine (HE.out _ _ _ HB1.out HO1.out).mono ?_; rintro e w2 ⟨rfl, hb2⟩; have HB2 : Hid (Below w.heap.size w w2) := HB1.out.trans (hb2.mono HB1.out.size); clear hb2))
  go_ret
  exact ⟨rfl, HB2.out⟩

set_option maxRecDepth 100000 in
set_option maxHeartbeats 2000000 in
theorem equal_any (S : Option Addr) (n cap : Nat) (l : List Sym) (t s : Tn) (a b : Option Addr) (c d : Nat) (w : World) (hS : SigAt w S n l) (hT : TmAt w t.1 a c t.2) (hU : TmAt w s.1 b d s.2) (hk : nodesF t.2 ≤ 1048576) (hk2 : nodesF s.2 ≤ 1048576) :
    Calls Try.prog 20 #[.slice S n cap, .agg #[.string t.1.1, .int .i64 t.1.2, .slice a (lenF t.2) c], .agg #[.string s.1.1, .int .i64 s.1.2, .slice b (lenF s.2) d]] w fun e w' => e = .returned (.bool (cmpN (canonT (sgOf l) t) (canonT (sgOf l) s) == 0)) ∧ Below w.heap.size w w' := by
  obtain ⟨ct, hct⟩ : ∃ ct, canonT (sgOf l) t = ct := ⟨_, rfl⟩
  obtain ⟨cs, hcs⟩ : ∃ cs, canonT (sgOf l) s = cs := ⟨_, rfl⟩
  have HC : Hid (∀ W, Below w.heap.size w W → Calls Try.prog 16 #[.slice S n cap, .agg #[.string t.1.1, .int .i64 t.1.2, .slice a (lenF t.2) c]] W fun e w' => ∃ a' c', e = .returned (.agg #[.string ct.1.1, .int .i64 ct.1.2, .slice a' (lenF ct.2) c']) ∧ OwnTm false (fun q => W.heap.size ≤ q) w' ct.1 a' c' ct.2 ∧ Below W.heap.size W w') := fun W hW => by
    have := canon_all S n cap l 1048576 (Nat.le_refl _) t a c W hk (hS.below hW) (hT.below hW)
    rw [hct] at this
    exact this
  have HD : Hid (∀ W, Below w.heap.size w W → Calls Try.prog 16 #[.slice S n cap, .agg #[.string s.1.1, .int .i64 s.1.2, .slice b (lenF s.2) d]] W fun e w' => ∃ a' c', e = .returned (.agg #[.string cs.1.1, .int .i64 cs.1.2, .slice a' (lenF cs.2) c']) ∧ OwnTm false (fun q => W.heap.size ≤ q) w' cs.1 a' c' cs.2 ∧ Below W.heap.size W w') := fun W hW => by
    have := canon_all S n cap l 1048576 (Nat.le_refl _) s b d W hk2 (hS.below hW) (hU.below hW)
    rw [hcs] at this
    exact this
  have HE : Hid (∀ W a' c' b' d', TmAt W ct.1 a' c' ct.2 → TmAt W cs.1 b' d' cs.2 → Calls Try.prog 36 #[.agg #[.string ct.1.1, .int .i64 ct.1.2, .slice a' (lenF ct.2) c'], .agg #[.string cs.1.1, .int .i64 cs.1.2, .slice b' (lenF cs.2) d']] W fun e w' => e = .returned (.bool (cmpN ct cs == 0)) ∧ Below W.heap.size W w') := fun W a' c' b' d' h1 h2 => rsame_any ct cs a' b' c' d' W h1 h2
  have ON : Hid (Pair w t.1 a (lenF t.2) c s.1 b (lenF s.2) d ((w.alloc (.cells #[.string t.1.1, .int .i64 t.1.2, .slice a (lenF t.2) c] 26)).alloc (.cells #[.string s.1.1, .int .i64 s.1.2, .slice b (lenF s.2) d] 26))) := Pair.new _ _ _ _ _ _ _ _ _
  rw [hct, hcs]
  clear hct hcs hS hT hU
  obtain ⟨⟨tn, ts⟩, tl⟩ := t
  obtain ⟨⟨sn, ss⟩, sl⟩ := s
  dsimp only at *
  go_enter Try.func20, Try.ntmps20
  go_wp2_with (first
    | (go_at_call 16; refine (HD.out _ HB1.out).mono ?_; rintro e w2 ⟨b', d', rfl, ho2, hb2⟩; have hba : Below w2.heap.size w2 (w2.alloc (.cells #[.string cs.1.1, .int .i64 cs.1.2, .slice b' (lenF cs.2) d'] 26)) := (Below.refl _ _).alloc (Nat.le_refl _) _; have hbb := hb2.trans (hba.mono hb2.size); have hbx := HX1.out.below hbb; have e0 := hbx.c0; have e1 := hbx.c1; have e2 := hbx.c2; have HO2 : Hid (TmAt (w2.alloc (.cells #[.string cs.1.1, .int .i64 cs.1.2, .slice b' (lenF cs.2) d'] 26)) cs.1 b' d' cs.2) := ho2.tm.below hba; have HO1' : Hid (TmAt (w2.alloc (.cells #[.string cs.1.1, .int .i64 cs.1.2, .slice b' (lenF cs.2) d'] 26)) ct.1 a' c' ct.2) := HO1.out.below hbb; have HB2 : Hid (Below w.heap.size w (w2.alloc (.cells #[.string cs.1.1, .int .i64 cs.1.2, .slice b' (lenF cs.2) d'] 26))) := HB1.out.trans (hbb.mono HB1.out.size); clear ho2 hb2 hba hbb hbx)
    | (go_at_call 16; refine (HC.out _ ON.out.low).mono ?_; rintro e w1 ⟨a', c', rfl, ho1, hb1⟩; have hba : Below w1.heap.size w1 (w1.alloc (.cells #[.string ct.1.1, .int .i64 ct.1.2, .slice a' (lenF ct.2) c'] 26)) := (Below.refl _ _).alloc (Nat.le_refl _) _; have hbb := hb1.trans (hba.mono hb1.size); have hbx := ON.out.r.below hbb; have c0 := hbx.c0; have c1 := hbx.c1; have c2 := hbx.c2; have HO1 : Hid (TmAt (w1.alloc (.cells #[.string ct.1.1, .int .i64 ct.1.2, .slice a' (lenF ct.2) c'] 26)) ct.1 a' c' ct.2) := ho1.tm.below hba; have HX1 : Hid (TBox (w1.alloc (.cells #[.string ct.1.1, .int .i64 ct.1.2, .slice a' (lenF ct.2) c'] 26)) w1.heap.size ct.1 a' (lenF ct.2) c') := TBox.new _ _ _ _ _; have HB1 : Hid (Below w.heap.size w (w1.alloc (.cells #[.string ct.1.1, .int .i64 ct.1.2, .slice a' (lenF ct.2) c'] 26))) := ON.out.low.trans (hbb.mono ON.out.low.size); clear ho1 hb1 hba hbb hbx)
    | (go_at_call 36; refine (HE.out _ _ _ _ _ HO1'.out HO2.out).mono ?_; rintro e w3 ⟨rfl, hb3⟩; have HB3 : Hid (Below w.heap.size w w3) := HB2.out.trans (hb3.mono HB2.out.size); clear hb3))
  go_ret
  exact ⟨rfl, HB3.out⟩

/-! ### right -/
set_option maxRecDepth 100000 in
set_option maxHeartbeats 2000000 in
theorem sright_any (S : Option Addr) (n cap : Nat) (l : List Sym) (w : World) (hS : SigAt w S n l) :
    Calls Try.prog 51 #[.slice S n cap] w fun e w' => e = .returned (.bool (checkE l == 0)) ∧ Below w.heap.size w w' := by
  have HC : Hid (Calls Try.prog 62 #[.slice S n cap] w fun e w' => CheckRet l e ∧ Below w.heap.size w w') := rcheck_any S n cap l w hS
  clear hS
  go_enter Try.func51, Try.ntmps51
  go_wp2_with (go_at_call 62; refine HC.out.mono ?_; rintro e w1 ⟨he, hb1⟩; unfold CheckRet at he; subst he; have HB1 : Hid (Below w.heap.size w w1) := hb1; clear hb1)
  go_ret
  exact ⟨rfl, HB1.out⟩
def rightB (l : List Sym) (t : Tn) : Bool := (checkE l == 0) && (errT l t.1 t.2 == 0)
set_option maxRecDepth 100000 in
set_option maxHeartbeats 2000000 in
theorem rright_any (S : Option Addr) (n cap : Nat) (l : List Sym) (t : Tn) (a : Option Addr) (c : Nat) (w : World) (hS : SigAt w S n l) (hT : TmAt w t.1 a c t.2) :
    Calls Try.prog 34 #[.slice S n cap, .agg #[.string t.1.1, .int .i64 t.1.2, .slice a (lenF t.2) c]] w fun e w' => e = .returned (.bool (rightB l t)) ∧ Below w.heap.size w w' := by
  obtain ⟨⟨tn, ts⟩, tl⟩ := t
  obtain ⟨ev, hev⟩ : ∃ ev, errT l (tn, ts) tl = ev := ⟨_, rfl⟩
  have ON : Hid (TBox (w.alloc (.cells #[.string tn, .int .i64 ts, .slice a (lenF tl) c] 26)) w.heap.size (tn, ts) a (lenF tl) c) := TBox.new w (tn, ts) a (lenF tl) c
  have HB0 : Hid (Below w.heap.size w (w.alloc (.cells #[.string tn, .int .i64 ts, .slice a (lenF tl) c] 26))) := (Below.refl _ w).alloc (Nat.le_refl _) _
  have HS : Hid (∀ W, Below w.heap.size w W → Calls Try.prog 51 #[.slice S n cap] W fun e w' => e = .returned (.bool (checkE l == 0)) ∧ Below W.heap.size W w') := fun W hW => sright_any S n cap l W (hS.below hW)
  have HN : Hid (∀ W, Below w.heap.size w W → Calls Try.prog 52 #[.slice S n cap, .agg #[.string tn, .int .i64 ts, .slice a (lenF tl) c]] W fun e w' => e = .returned (.int .i64 ev) ∧ Below W.heap.size W w') := fun W hW => by
    have := nodes_all l _ S n cap (tn, ts) tl a c W (Nat.le_refl _) (hS.below hW) (hT.below hW)
    rw [hev] at this
    exact this
  clear hS hT
  cases hc : (checkE l == 0)
  · have e : Hid (rightB l ((tn, ts), tl) = false) := by show _ = _; unfold rightB; rw [hc]; rfl
    rw [hc] at HS
    go_enter Try.func34, Try.ntmps34
    go_wp2_with (go_at_call 51; refine (HS.out _ HB0.out).mono ?_; rintro e w1 ⟨rfl, hb1⟩; have HB1 : Hid (Below w.heap.size w w1) := HB0.out.trans (hb1.mono HB0.out.size); have hbx := ON.out.below hb1; have c0 := hbx.c0; have c1 := hbx.c1; have c2 := hbx.c2; clear hb1 hbx)
    go_ret
    exact ⟨by rw [e.out]; rfl, HB1.out⟩
  · have e : Hid (rightB l ((tn, ts), tl) = (ev == 0)) := by show _ = _; unfold rightB; rw [hc, ← hev]; rfl
    rw [hc] at HS
    clear hev
    go_enter Try.func34, Try.ntmps34
    go_wp2_with (first
      | (go_at_call 51; refine (HS.out _ HB0.out).mono ?_; rintro e w1 ⟨rfl, hb1⟩; have HB1 : Hid (Below w.heap.size w w1) := HB0.out.trans (hb1.mono HB0.out.size); have hbx := ON.out.below hb1; have c0 := hbx.c0; have c1 := hbx.c1; have c2 := hbx.c2; clear hb1 hbx)
      | (go_at_call 52; refine (HN.out _ HB1.out).mono ?_; rintro e w2 ⟨rfl, hb2⟩; have HB2 : Hid (Below w.heap.size w w2) := HB1.out.trans (hb2.mono HB1.out.size); clear hb2))
    go_ret
    exact ⟨by rw [e.out]; rfl, HB2.out⟩
set_option maxRecDepth 100000 in
theorem right_facts {l : List Sym} {t : Tn} (h : rightB l t = true) : (sgOf l).Ok (arAt l) ∧ RightT (sgOf l) (arAt l) t := by
  unfold rightB at h
  simp only [Bool.and_eq_true, beq_iff_eq] at h
  exact ⟨sg_ok h.1, errT_right h.1 h.2⟩
end Go.Proofs.Ytlemkgdbefmeeaa
/- What the statements' own 'right' answers of a signature, two terms and a list. -/
namespace Go.Proofs.Ytlemkgdbefmeeaa
open Go.RowKit Go.Deep

/-- What a statement is asked about, in memory. -/
structure TwoAt (w : World) (S : Option Addr) (n : Nat) (l : List Sym) (A B : Tn) (a b : Option Addr) (c d : Nat) (La : Option Addr) (F : Fo) : Prop where
  sig : SigAt w S n l
  a : TmAt w A.1 a c A.2
  b : TmAt w B.1 b d B.2
  l : ArgsAt w La F
  few : lenF F * 48 ≤ 140737488351232
set_option maxRecDepth 100000 in
theorem TwoAt.below {w w' : World} {S : Option Addr} {n : Nat} {l : List Sym} {A B : Tn} {a b : Option Addr} {c d : Nat} {La : Option Addr} {F : Fo} (h : TwoAt w S n l A B a b c d La F) (hb : Below w.heap.size w w') : TwoAt w' S n l A B a b c d La F :=
  ⟨h.sig.below hb, h.a.below hb, h.b.below hb, h.l.below hb, h.few⟩
def twoC (S : Option Addr) (n cap : Nat) (A B : Tn) (a b : Option Addr) (c d : Nat) (f : Int) (La : Option Addr) (F : Fo) (lc : Nat) : Array Value :=
  #[.slice S n cap, .string A.1.1, .int .i64 A.1.2, .slice a (lenF A.2) c, .string B.1.1, .int .i64 B.1.2, .slice b (lenF B.2) d, .int .i64 f, .slice La (lenF F) lc]
/-- The box of it. -/
def WBox (W : World) (g : Nat) (cs : Array Value) : Prop := W.heap[g]? = some (.cells cs 28 (0, 0))
set_option maxRecDepth 100000 in
theorem WBox.below {W W' : World} {g : Nat} {cs : Array Value} (h : WBox W g cs) (hb : Below W.heap.size W W') : WBox W' g cs := (hb.block g (Array.getElem?_eq_some_iff.1 h).1).trans h
set_option maxRecDepth 100000 in
theorem WBox.c {W : World} {g : Nat} {cs : Array Value} (h : WBox W g cs) (k : Nat) {v : Value} (hv : cs[k]? = some v) : W.cell? ⟨g, k, none⟩ = some v := by simp [World.cell?, show W.heap[g]? = _ from h, hv]

set_option maxRecDepth 100000 in
set_option maxHeartbeats 2000000 in
theorem right_any (S : Option Addr) (n cap : Nat) (l : List Sym) (A B : Tn) (a b : Option Addr) (c d : Nat) (f : Int) (La : Option Addr) (F : Fo) (lc : Nat) (w : World) (h : TwoAt w S n l A B a b c d La F) :
    Calls Try.prog 15 #[.agg (twoC S n cap A B a b c d f La F lc)] w fun e w' => e = .returned (.bool (rightB l A && rightB l B && (kidsL F).all (rightB l))) ∧ Below w.heap.size w w' := by
  have H : Hid (TwoAt w S n l A B a b c d La F) := h
  have HB0 : Hid (Below w.heap.size w (w.alloc (.cells (twoC S n cap A B a b c d f La F lc) 28))) := (Below.refl _ w).alloc (Nat.le_refl _) _
  have HW0 : Hid (WBox (w.alloc (.cells (twoC S n cap A B a b c d f La F lc) 28)) w.heap.size (twoC S n cap A B a b c d f La F lc)) := World.alloc_heap_new w _
  clear h
  obtain ⟨⟨an, az⟩, al⟩ := A
  obtain ⟨⟨bn, bz⟩, bl⟩ := B
  unfold twoC at *
  dsimp only at *
  obtain ⟨ra, hra⟩ : ∃ ra, rightB l ((an, az), al) = ra := ⟨_, rfl⟩
  obtain ⟨rb, hrb⟩ : ∃ rb, rightB l ((bn, bz), bl) = rb := ⟨_, rfl⟩
  have HA : Hid (∀ W, Below w.heap.size w W → Calls Try.prog 34 #[.slice S n cap, .agg #[.string an, .int .i64 az, .slice a (lenF al) c]] W fun e w' => e = .returned (.bool ra) ∧ Below W.heap.size W w') := fun W hW => by
    have := rright_any S n cap l ((an, az), al) a c W (H.out.below hW).sig (H.out.below hW).a
    rw [hra] at this
    exact this
  have HB : Hid (∀ W, Below w.heap.size w W → Calls Try.prog 34 #[.slice S n cap, .agg #[.string bn, .int .i64 bz, .slice b (lenF bl) d]] W fun e w' => e = .returned (.bool rb) ∧ Below W.heap.size W w') := fun W hW => by
    have := rright_any S n cap l ((bn, bz), bl) b d W (H.out.below hW).sig (H.out.below hW).b
    rw [hrb] at this
    exact this
  rw [hra, hrb]
  clear hra hrb
  cases ra with
  | true =>
    go_enter Try.func15, Try.ntmps15
    go_wp2_with (first
      | (go_at_call 34; refine (HB.out _ HB1.out).mono ?_; rintro e w2 ⟨rfl, hb2⟩; have HB2 : Hid (Below w.heap.size w w2) := HB1.out.trans (hb2.mono HB1.out.size); have HW2 : Hid (WBox w2 w.heap.size #[.slice S n cap, .string an, .int .i64 az, .slice a (lenF al) c, .string bn, .int .i64 bz, .slice b (lenF bl) d, .int .i64 f, .slice La (lenF F) lc]) := HW1.out.below hb2; clear hb2)
      | (go_at_call 34; refine (HA.out _ HB0.out).mono ?_; rintro e w1 ⟨rfl, hb1⟩; have HB1 : Hid (Below w.heap.size w w1) := HB0.out.trans (hb1.mono HB0.out.size); have HW1 : Hid (WBox w1 w.heap.size #[.slice S n cap, .string an, .int .i64 az, .slice a (lenF al) c, .string bn, .int .i64 bz, .slice b (lenF bl) d, .int .i64 f, .slice La (lenF F) lc]) := HW0.out.below hb1; have c0 := HW1.out.c 0 rfl; have c4 := HW1.out.c 4 rfl; have c5 := HW1.out.c 5 rfl; have c6 := HW1.out.c 6 rfl; clear hb1))
    go_loopw [5, 6, 7] (fun ok i _ wr => ∃ j : Nat, j ≤ lenF F ∧ i = .int .i64 j ∧ ok = .bool (rb && ((kidsL F).take j).all (rightB l)) ∧ Below w.heap.size w wr ∧ WBox wr w.heap.size #[.slice S n cap, .string an, .int .i64 az, .slice a (lenF al) c, .string bn, .int .i64 bz, .slice b (lenF bl) d, .int .i64 f, .slice La (lenF F) lc]) (fun _ i _ _ => lenF F - (intOf i).toNat)
    case atStart => exact ⟨0, Nat.zero_le _, rfl, by simp, HB2.out, HW2.out⟩
    case round =>
      clear c0 c4 c5 c6
      obtain ⟨j, hj, rfl, rfl, hlow, hbox⟩ := hrel
      obtain ⟨ov, hov⟩ : ∃ ov, (rb && ((kidsL F).take j).all (rightB l)) = ov := ⟨_, rfl⟩
      have HOV : Hid ((rb && ((kidsL F).take j).all (rightB l)) = ov) := hov
      rw [hov]
      clear hov
      have HLo : Hid (Below w.heap.size w wr) := hlow
      have HBo : Hid (WBox wr w.heap.size #[.slice S n cap, .string an, .int .i64 az, .slice a (lenF al) c, .string bn, .int .i64 bz, .slice b (lenF bl) d, .int .i64 f, .slice La (lenF F) lc]) := hbox
      have c8 : wr.cell? ⟨w.heap.size, 8, none⟩ = some (.slice La (lenF F) lc) := hbox.c 8 rfl
      have hn : lenF F ≤ 9223372036854775807 := by have := H.out.few; omega
      clear hlow
      by_cases hlt : j < lenF F
      · obtain ⟨b1, o1, rfl, hk1⟩ := (H.out.below HLo.out).l.get (by omega)
        obtain ⟨z, a1, c1, l1, kd⟩ := hk1.kid (k := j) hlt
        have KD : Hid (Kid wr F b1 o1 j z a1 c1 l1) := kd
        obtain ⟨iv, hiv⟩ : ∃ iv, rightB l (z, l1) = iv := ⟨_, rfl⟩
        have hC : Hid (∀ W, Below wr.heap.size wr W → Calls Try.prog 34 #[.slice S n cap, .agg #[.string z.1, .int .i64 z.2, .slice a1 (lenF l1) c1]] W fun e w' => e = .returned (.bool iv) ∧ Below W.heap.size W w') := fun W hW => by
          have := rright_any S n cap l (z, l1) a1 c1 W ((H.out.below HLo.out).below hW).sig (KD.out.at_.below hW)
          rw [hiv] at this
          exact this
        have HIV : Hid (rightB l (z, l1) = iv) := hiv
        have hne := later_some wr
        have d0 := later_cell (hbox.c 0 rfl : wr.cell? ⟨w.heap.size, 0, none⟩ = some (.slice S n cap))
        have d1 := later_cell c8
        have p0 := later_cell kd.name; have p1 := later_cell kd.sym; have p2 := later_cell kd.list
        have hk0 : (0 : Int) ≤ (j : Int) := by omega
        have hkn : (j : Int) < (lenF F : Int) := by omega
        clear kd hk1 hbox hiv
        go_wp2_with fail
        refine wp_region_later (by kernel_rfl) (by kernel_rfl) ?_
        repeat (go_big_quiet_step ((refine calls_later (hC.out _ ?_); exact Later.below _)))
        refine wpQuiet_nil ?_
        intro _ hw'
        obtain ⟨b2, hw''⟩ := hw'
        subst hw''
        have HLo2 : Hid (Below w.heap.size w b2.now) := HLo.out.trans (b2.below.mono HLo.out.size)
        have HBo2 : Hid (WBox b2.now w.heap.size #[.slice S n cap, .string an, .int .i64 az, .slice a (lenF al) c, .string bn, .int .i64 bz, .slice b (lenF bl) d, .int .i64 f, .slice (some ⟨b1, o1, none⟩) (lenF F) lc]) := HBo.out.below b2.below
        have HT : Hid ((rb && ((kidsL F).take (j + 1)).all (rightB l)) = (ov && iv)) := by
          obtain ⟨B1, O1, sp⟩ := KD.out.split
          show _ = _
          rw [kids_take sp, List.all_append, ← Bool.and_assoc, HOV.out, List.all_cons, HIV.out]
          simp
        clear d0 d1 p0 p1 p2 c8
        cases ov with
        | true =>
          go_wp2
          go_roundw
          case rel => exact ⟨j + 1, by omega, by go_num, by rw [HT.out]; rfl, HLo2.out, HBo2.out⟩
          case measure => simp [intOf]; omega
        | false =>
          go_wp2
          go_roundw
          case rel => exact ⟨j + 1, by omega, by go_num, by rw [HT.out]; rfl, HLo2.out, HBo2.out⟩
          case measure => simp [intOf]; omega
      · obtain rfl : j = lenF F := by omega
        have hX3 : Hid ((rb && (kidsL F).all (rightB l)) = ov) := by have := HOV.out; rwa [List.take_of_length_le (by rw [kids_len]; exact Nat.le_refl _)] at this
        clear hbox
        go_wp2
        go_ret
        exact ⟨by rw [← hX3.out]; simp, HLo.out⟩
  | false =>
    go_enter Try.func15, Try.ntmps15
    go_wp2_with (first
      | (go_at_call 34; refine (HB.out _ HB1.out).mono ?_; rintro e w2 ⟨rfl, hb2⟩; have HB2 : Hid (Below w.heap.size w w2) := HB1.out.trans (hb2.mono HB1.out.size); have HW2 : Hid (WBox w2 w.heap.size #[.slice S n cap, .string an, .int .i64 az, .slice a (lenF al) c, .string bn, .int .i64 bz, .slice b (lenF bl) d, .int .i64 f, .slice La (lenF F) lc]) := HW1.out.below hb2; clear hb2)
      | (go_at_call 34; refine (HA.out _ HB0.out).mono ?_; rintro e w1 ⟨rfl, hb1⟩; have HB1 : Hid (Below w.heap.size w w1) := HB0.out.trans (hb1.mono HB0.out.size); have HW1 : Hid (WBox w1 w.heap.size #[.slice S n cap, .string an, .int .i64 az, .slice a (lenF al) c, .string bn, .int .i64 bz, .slice b (lenF bl) d, .int .i64 f, .slice La (lenF F) lc]) := HW0.out.below hb1; have c0 := HW1.out.c 0 rfl; have c4 := HW1.out.c 4 rfl; have c5 := HW1.out.c 5 rfl; have c6 := HW1.out.c 6 rfl; clear hb1))
    go_loopw [5, 6, 7] (fun ok i _ wr => ∃ j : Nat, j ≤ lenF F ∧ i = .int .i64 j ∧ ok = .bool (false && ((kidsL F).take j).all (rightB l)) ∧ Below w.heap.size w wr ∧ WBox wr w.heap.size #[.slice S n cap, .string an, .int .i64 az, .slice a (lenF al) c, .string bn, .int .i64 bz, .slice b (lenF bl) d, .int .i64 f, .slice La (lenF F) lc]) (fun _ i _ _ => lenF F - (intOf i).toNat)
    case atStart => exact ⟨0, Nat.zero_le _, rfl, by simp, HB2.out, HW2.out⟩
    case round =>
      clear c0 c4 c5 c6
      obtain ⟨j, hj, rfl, rfl, hlow, hbox⟩ := hrel
      obtain ⟨ov, hov⟩ : ∃ ov, (false && ((kidsL F).take j).all (rightB l)) = ov := ⟨_, rfl⟩
      have HOV : Hid ((false && ((kidsL F).take j).all (rightB l)) = ov) := hov
      rw [hov]
      clear hov
      have HLo : Hid (Below w.heap.size w wr) := hlow
      have HBo : Hid (WBox wr w.heap.size #[.slice S n cap, .string an, .int .i64 az, .slice a (lenF al) c, .string bn, .int .i64 bz, .slice b (lenF bl) d, .int .i64 f, .slice La (lenF F) lc]) := hbox
      have c8 : wr.cell? ⟨w.heap.size, 8, none⟩ = some (.slice La (lenF F) lc) := hbox.c 8 rfl
      have hn : lenF F ≤ 9223372036854775807 := by have := H.out.few; omega
      clear hlow
      by_cases hlt : j < lenF F
      · obtain ⟨b1, o1, rfl, hk1⟩ := (H.out.below HLo.out).l.get (by omega)
        obtain ⟨z, a1, c1, l1, kd⟩ := hk1.kid (k := j) hlt
        have KD : Hid (Kid wr F b1 o1 j z a1 c1 l1) := kd
        obtain ⟨iv, hiv⟩ : ∃ iv, rightB l (z, l1) = iv := ⟨_, rfl⟩
        have hC : Hid (∀ W, Below wr.heap.size wr W → Calls Try.prog 34 #[.slice S n cap, .agg #[.string z.1, .int .i64 z.2, .slice a1 (lenF l1) c1]] W fun e w' => e = .returned (.bool iv) ∧ Below W.heap.size W w') := fun W hW => by
          have := rright_any S n cap l (z, l1) a1 c1 W ((H.out.below HLo.out).below hW).sig (KD.out.at_.below hW)
          rw [hiv] at this
          exact this
        have HIV : Hid (rightB l (z, l1) = iv) := hiv
        have hne := later_some wr
        have d0 := later_cell (hbox.c 0 rfl : wr.cell? ⟨w.heap.size, 0, none⟩ = some (.slice S n cap))
        have d1 := later_cell c8
        have p0 := later_cell kd.name; have p1 := later_cell kd.sym; have p2 := later_cell kd.list
        have hk0 : (0 : Int) ≤ (j : Int) := by omega
        have hkn : (j : Int) < (lenF F : Int) := by omega
        clear kd hk1 hbox hiv
        go_wp2_with fail
        refine wp_region_later (by kernel_rfl) (by kernel_rfl) ?_
        repeat (go_big_quiet_step ((refine calls_later (hC.out _ ?_); exact Later.below _)))
        refine wpQuiet_nil ?_
        intro _ hw'
        obtain ⟨b2, hw''⟩ := hw'
        subst hw''
        have HLo2 : Hid (Below w.heap.size w b2.now) := HLo.out.trans (b2.below.mono HLo.out.size)
        have HBo2 : Hid (WBox b2.now w.heap.size #[.slice S n cap, .string an, .int .i64 az, .slice a (lenF al) c, .string bn, .int .i64 bz, .slice b (lenF bl) d, .int .i64 f, .slice (some ⟨b1, o1, none⟩) (lenF F) lc]) := HBo.out.below b2.below
        have HT : Hid ((false && ((kidsL F).take (j + 1)).all (rightB l)) = (ov && iv)) := by
          obtain ⟨B1, O1, sp⟩ := KD.out.split
          show _ = _
          rw [kids_take sp, List.all_append, ← Bool.and_assoc, HOV.out, List.all_cons, HIV.out]
          simp
        clear d0 d1 p0 p1 p2 c8
        cases ov with
        | true =>
          go_wp2
          go_roundw
          case rel => exact ⟨j + 1, by omega, by go_num, by rw [HT.out]; rfl, HLo2.out, HBo2.out⟩
          case measure => simp [intOf]; omega
        | false =>
          go_wp2
          go_roundw
          case rel => exact ⟨j + 1, by omega, by go_num, by rw [HT.out]; rfl, HLo2.out, HBo2.out⟩
          case measure => simp [intOf]; omega
      · obtain rfl : j = lenF F := by omega
        have hX3 : Hid ((false && (kidsL F).all (rightB l)) = ov) := by have := HOV.out; rwa [List.take_of_length_le (by rw [kids_len]; exact Nat.le_refl _)] at this
        clear hbox
        go_wp2
        go_ret
        exact ⟨by rw [← hX3.out]; simp, HLo.out⟩
end Go.Proofs.Ytlemkgdbefmeeaa
/- What the statements' own 'app' answers: a symbol's term of copies. -/
namespace Go.Proofs.Ytlemkgdbefmeeaa
open Go.RowKit Go.Deep

set_option maxRecDepth 100000 in
theorem Lst.set {B : Nat} {W : World} {v : Value} {ks : List Kv} (h : Lst B W v ks) {p : Addr} (hp : p.block < B) (u : Value) : Lst B (W.setCell p u) v ks :=
  ⟨owns_block h.row (fun q hq => by have := (owns_cells h.row hq).1; exact Below.heap_setCell W p u q (by omega)), fun k hk => (h.own k hk).keep (fun q hq _ => Below.heap_setCell W p u q (by omega))⟩
/-- The boxes of the answer and of what is built. -/
structure Duo (w : World) (x : ByteArray × Int) (W : World) (v : Value) : Prop where
  low : Below w.heap.size w W
  r : XBox W w.heap.size (⟨#[]⟩, 0) (.slice none 0 0)
  x : XBox W (w.heap.size + 1) x v
set_option maxRecDepth 100000 in
theorem duo_new (w : World) (x : ByteArray × Int) : Duo w x ((w.alloc (.cells #[.string ⟨#[]⟩, .int .i64 0, .slice none 0 0] 26)).alloc (.cells #[.string x.1, .int .i64 x.2, .slice none 0 0] 26)) (.slice none 0 0) :=
  ⟨((Below.refl _ w).alloc (Nat.le_refl _) _).alloc (by simp) _, XBox.below (W := w.alloc (.cells #[.string ⟨#[]⟩, .int .i64 0, .slice none 0 0] 26)) (World.alloc_heap_new w _) ((Below.refl _ _).alloc (Nat.le_refl _) _), heap_alloc2_new w _ _⟩

set_option maxRecDepth 100000 in
set_option maxHeartbeats 2000000 in
theorem app_any (f : Int) (a : Option Addr) (n c : Nat) (ks : List Kv) (w : World) (hR : RowAt w a n ks) (hK : ∀ k ∈ ks, TmAt w k.x k.a k.c k.l) (hn : n ≤ 1048576) :
    Calls Try.prog 27 #[.int .i64 f, .slice a n c] w fun e w' => ∃ a' c', e = .returned (.agg #[.string noB, .int .i64 f, .slice a' (lenF (mkF (ks.map Kv.tn))) c']) ∧ OwnTm false (fun q => w.heap.size ≤ q) w' (noB, f) a' c' (mkF (ks.map Kv.tn)) ∧ Below w.heap.size w w' := by
  obtain rfl := hR.len
  obtain ⟨i0, hi, hz0, hz1, hz2⟩ := info_parts Try.info26
  have HR : Hid (RowAt w a ks.length ks) := hR
  have HK : Hid (∀ k ∈ ks, TmAt w k.x k.a k.c k.l) := hK
  clear hR hK
  go_enter Try.func27, Try.ntmps27
  go_wp2
  go_loopw [6] (fun i wr => ∃ (j : Nat) (v : Value) (ms : List Kv), j ≤ ks.length ∧ i = .int .i64 j ∧ Duo w (noB, f) wr v ∧ Lst (w.heap.size + 2) wr v ms ∧ ms.map Kv.tn = (ks.take j).map Kv.tn) (fun i _ => ks.length - (intOf i).toNat)
  case atStart => exact ⟨0, _, [], Nat.zero_le _, rfl, duo_new w (noB, f), Lst.nil _ _, by simp⟩
  case round =>
    obtain ⟨j, v, ms, hj, rfl, hD, hL, hmap⟩ := hrel
    have HD : Hid (Duo w (noB, f) wr v) := hD
    have HL : Hid (Lst (w.heap.size + 2) wr v ms) := hL
    have HM : Hid (ms.map Kv.tn = (ks.take j).map Kv.tn) := hmap
    have hml : ms.length = j := by
      have := congrArg List.length hmap
      rw [List.length_map, List.length_map, List.length_take] at this
      omega
    have X0 : Hid (XBox wr (w.heap.size + 1) (noB, f) v) := hD.x
    have cX := X0.out.c2
    have hXlt : w.heap.size + 1 < wr.heap.size := X0.out.lt
    have hmax : maxLen = 9223372036854775807 := rfl
    clear hD hL hmap
    by_cases hlt : j < ks.length
    · obtain ⟨kv, hkv⟩ : ∃ kv, ks[j]? = some kv := ⟨_, List.getElem?_eq_getElem hlt⟩
      obtain ⟨bb, oo, rfl, p0, p1, p2⟩ := (HR.out.below HD.out.low).get hkv
      have HKV : Hid (ks[j]? = some kv) := hkv
      obtain ⟨y, l1, a1, c1⟩ := kv
      dsimp only at p0 p1 p2
      have hTk : TmAt wr y a1 c1 l1 := (HK.out _ (List.mem_of_getElem? hkv)).below HD.out.low
      have hIH := rclone_any y l1 a1 c1 wr.drew (hTk.kept (fun _ _ h => h))
      have HIH : Hid (Calls Try.prog 29 #[.agg #[.string y.1, .int .i64 y.2, .slice a1 (lenF l1) c1]] wr.drew fun e w' => ∃ a' c', e = .returned (.agg #[.string y.1, .int .i64 y.2, .slice a' (lenF l1) c']) ∧ RowTm wr.heap.size w' y a' c' l1 ∧ Below wr.heap.size wr.drew w') := hIH
      have hj0 : (0 : Int) ≤ (j : Int) := by omega
      have hjn : (j : Int) < (ks.length : Int) := by omega
      have HMl : Hid (ms.length = j) := hml
      have HRow : Hid (wr.ownsRow (w.heap.size + 2) 26 3 v j (kvCells ms)) := by have := HL.out.row; rwa [hml] at this
      clear hIH hTk hkv hml
      go_wp2_with fail
      go_region_law
        ((first
          | (refine step_append_lies _ (by rfl) _ _ 24 (by rfl) (w.heap.size + 2) 26 i0 _ 3 48 Try.underlying24 hi hz0 hz1 hz2 rfl (by decide) v j (kvCells ms) (by rfl) (owns_below (owns_below HRow.out HW1.out) ((Below.refl _ _).alloc (Nat.le_refl _) _)) ⟨w1.heap.size, 0, none⟩ 1 1 (Kv.cells ⟨y, l1, a', c'⟩) (by rfl) rfl (World.news_of_block (heap_alloc_new w1 _)) (kv_one _) (by decide) (by omega) (by omega) (by have := HW1.out.size; simp; omega) _ rfl ?_; intro g3 cap3 w3 hown3 hgrow3 hat3 hlt3; have X3 : Hid (XBox w3 (w.heap.size + 1) (noB, f) v) := X2.out.kept hgrow3 (fun e => by have := (owns_cells HRow.out e.symm).1; omega); have cX3 := X3.out.c2; have fX3 := X3.out.f (k := 2); have HO3 : Hid (w3.ownsRow (w.heap.size + 2) 26 3 (.slice (some ⟨g3, 0, none⟩) (j + 1) cap3) (j + 1) (kvCells ms ++ Kv.cells ⟨y, l1, a', c'⟩)) := hown3; have HG3 : Hid ((w1.alloc (.cells #[.string y.1, .int .i64 y.2, .slice a' (lenF l1) c'] 26)).grownBy w3 v.ownBlock ∧ (v.ownBlock = some g3 ∨ g3 = w1.heap.size + 1)) := ⟨hgrow3, by simpa using hat3⟩; clear hown3 hgrow3 hat3)
          | (go_simp; go_wp2_with (go_at_call 29; refine HIH.out.mono ?_; rintro e w1 ⟨a', c', rfl, ho1, hb1⟩; have HO1 : Hid (OwnTm false (fun k => wr.heap.size ≤ k) w1 y a' c' l1) := ho1.own; have HW1 : Hid (Below wr.heap.size wr w1) := ((Below.refl _ wr).drew).trans hb1; have X1 : Hid (XBox w1 (w.heap.size + 1) (noB, f) v) := X0.out.below HW1.out; have cX1 := X1.out.c2; have X2 : Hid (XBox (w1.alloc (.cells #[.string y.1, .int .i64 y.2, .slice a' (lenF l1) c'] 26)) (w.heap.size + 1) (noB, f) v) := X1.out.below ((Below.refl _ _).alloc (Nat.le_refl _) _); have cX2 := X2.out.c2; clear ho1 hb1))
          | fail))
      all_goals
        go_wp2
        go_roundw
        case rel =>
          have hWa : Below wr.heap.size wr (w1.alloc (.cells #[.string y.1, .int .i64 y.2, .slice a' (lenF l1) c'] 26)) := HW1.out.alloc HW1.out.size _
          have hsz := HD.out.low.size
          have hL3 := HL.out.grow (ms := [⟨y, l1, a', c'⟩]) (v' := .slice (some ⟨g3, 0, none⟩) (j + 1) cap3) hWa (fun k hk => by simp only [List.mem_singleton] at hk; subst hk; exact HO1.out.below ((Below.refl _ _).alloc (Nat.le_refl _) _)) (by omega) HG3.out.1 (by
            rcases HG3.out.2 with e | e
            · exact .inl e.symm
            · exact .inr (by rw [World.size_alloc, ← e]; rfl)) (by rw [List.length_append, HMl.out, kvCells_append]; exact HO3.out)
          have hlow3 : Below w.heap.size w w3 := HD.out.low.trans ((hWa.mono hsz).grown HG3.out.1 (by have := hWa.size; omega) (fun k e => by have := (owns_cells HRow.out e).1; omega))
          have hR3 : XBox w3 w.heap.size (⟨#[]⟩, 0) (.slice none 0 0) := (HD.out.r.below hWa).kept HG3.out.1 (fun e => by have := (owns_cells HRow.out e.symm).1; omega)
          refine ⟨j + 1, _, _, by omega, by go_num, ⟨hlow3.setCell (p := ⟨w.heap.size + 1, 2, none⟩) (by show w.heap.size ≤ w.heap.size + 1; omega) _, hR3.other (p := ⟨w.heap.size + 1, 2, none⟩) (by show w.heap.size ≠ w.heap.size + 1; omega) _, X3.out.set _⟩, hL3.set (p := ⟨w.heap.size + 1, 2, none⟩) (by show w.heap.size + 1 < w.heap.size + 2; omega) _, ?_⟩
          rw [List.take_add_one, HKV.out, List.map_append, List.map_append, HM.out]
          rfl
        case measure => simp [intOf]; omega
    · obtain rfl : j = ks.length := by omega
      have hmm : ms.map Kv.tn = kidsL (mkF (ks.map Kv.tn)) := by rw [HM.out, kids_mk, List.take_length]
      have hlm : lenF (mkF (ks.map Kv.tn)) = ks.length := by rw [len_mk, List.length_map]
      obtain ⟨a3, c3, hv3, hown⟩ := HL.out.term (noB, f) hmm (show noB.size ≤ maxLen by decide) (by rw [hlm]; omega)
      rw [hlm] at hv3
      subst hv3
      have HOW : Hid (OwnTm false (fun q => w.heap.size + 2 ≤ q) wr (noB, f) a3 c3 (mkF (ks.map Kv.tn))) := hown
      have HLm : Hid (lenF (mkF (ks.map Kv.tn)) = ks.length) := hlm
      have x0 := X0.out.c0; have x1 := X0.out.c1
      have R4 := HD.out.r
      have r0 := R4.c0; have r1 := R4.c1; have r2 := R4.c2
      have f0 := R4.f (k := 0); have f1 := R4.f (k := 1); have f2 := R4.f (k := 2)
      clear hmm hlm hown R4 hml
      go_wp2
      refine bodyPost_ret (results_cell_row rfl _ _ w.heap.size 26 #[.string noB, .int .i64 f, .slice a3 ks.length c3] (0, 0) _ rfl (HD.out.r.all (x := (noB, f)) _) Try.underlying26 rfl Try.size26) rfl ?_
      refine ⟨a3, c3, by rw [HLm.out], ?_, sets_below HD.out.low (Nat.le_refl _) _ _ _⟩
      have h5 : OwnTm false (fun q => w.heap.size + 1 ≤ q) wr (noB, f) a3 c3 (mkF (ks.map Kv.tn)) := HOW.out.mono (fun q _ hq => by omega)
      exact h5.sets _ _ _
end Go.Proofs.Ytlemkgdbefmeeaa
/- An AC or ACU symbol's term of two right terms or more is right; the unit's constant is. -/
namespace Go.Proofs.Ytlemkgdbefmeeaa
open Go.RowKit Go.Deep

set_option maxRecDepth 100000 in
theorem errF_mk {S : List Sym} : ∀ {l : List Tn}, (∀ t ∈ l, errT S t.1 t.2 = 0) → errF S (mkF l) = 0
  | [], _ => rfl
  | t :: r, h => by
    rw [mkF, errF, show thenC (nodeErr S t.1 (lenF t.2)) (errF S t.2) = 0 from h t List.mem_cons_self, errF_mk (fun k hk => h k (List.mem_cons_of_mem _ hk))]
    rfl
set_option maxRecDepth 100000 in
theorem rightB_app {S : List Sym} {k : Nat} (hk : k < S.length) (hj : S[k].kind ≠ 1) {l : List Tn} (h2 : 2 ≤ l.length) (hc : checkE S = 0) (h : ∀ t ∈ l, rightB S t = true) : rightB S (appT (k : Int) l) = true := by
  have he : ∀ t ∈ l, errT S t.1 t.2 = 0 := fun t ht => by
    have := h t ht
    unfold rightB at this
    simp only [Bool.and_eq_true, beq_iff_eq] at this
    exact this.2
  have hn : nodeErr S (noB, (k : Int)) (lenF (mkF l)) = 0 := by
    rw [nodeErr_in noName_noB (by show (0 : Int) ≤ (k : Int); omega) (by show (k : Int).toNat < S.length; omega)]
    rw [if_pos]
    unfold takesB
    rw [if_neg (by simpa using hj), len_mk]
    simpa using h2
  unfold rightB appT errT
  dsimp only
  rw [hn, errF_mk he, hc]
  rfl
set_option maxRecDepth 100000 in
/-- The place of an AC or ACU symbol of a right signature joins. -/
theorem joins_of {S : List Sym} (hc : checkE S = 0) {k : Nat} (hk : k < S.length) (hj : S[k].kind ≠ 1) : (sgOf S).joins (k : Int) = true := by
  show joinsAt S (k : Int) = true
  unfold joinsAt
  rw [symAt_in hk]
  have := (symErr_zero (right_each hc hk)).2.1
  unfold kindB at this
  simpa [hj] using this
set_option maxRecDepth 100000 in
theorem rightB_const {S : List Sym} (hc : checkE S = 0) {f : Int} {i : Nat} (hu : unitAt S f = some i) : rightB S (constT (i : Int)) = true := by
  obtain ⟨hi, hk, ha⟩ := unit_facts hc hu
  have hn : nodeErr S (noB, (i : Int)) 0 = 0 := by
    rw [nodeErr_in noName_noB (by show (0 : Int) ≤ (i : Int); omega) (by show (i : Int).toNat < S.length; omega)]
    rw [if_pos]
    unfold takesB
    have e : S[(noB, (i : Int)).2.toNat]'(by show (i : Int).toNat < S.length; omega) = S[i] := by simp
    rw [e, if_pos hk, ha]
    rfl
  unfold rightB constT errT
  dsimp only
  rw [show lenF (BT.nil : Fo) = 0 from rfl, hn, hc]
  rfl
end Go.Proofs.Ytlemkgdbefmeeaa
/- What Head of the statements answers: true. -/
namespace Go.Proofs.Ytlemkgdbefmeeaa
open Go.RowKit Go.Deep

def bA : ByteArray := ⟨#[97]⟩
def bOne : ByteArray := ⟨#[111, 110, 101]⟩
def bF : ByteArray := ⟨#[102]⟩
def bPlus : ByteArray := ⟨#[112, 108, 117, 115]⟩
def bTimes : ByteArray := ⟨#[116, 105, 109, 101, 115]⟩
def bX : ByteArray := ⟨#[88]⟩
def someL : List Sym := [⟨bA, 1, 0, ⟨#[]⟩⟩, ⟨bOne, 1, 0, ⟨#[]⟩⟩, ⟨bF, 1, 2, ⟨#[]⟩⟩, ⟨bPlus, 2, 2, ⟨#[]⟩⟩, ⟨bTimes, 3, 2, bOne⟩]

def headX : Tn := ((⟨#[]⟩, 4), .node 0 0 (⟨#[]⟩, 0) .nil (.node 0 0 (⟨#[]⟩, 4) (.node 0 0 (bX, 0) .nil (.node 0 0 (⟨#[]⟩, 1) .nil .nil)) .nil))
def headYF : Fo := .node 0 0 (bX, 0) .nil (.node 0 0 (⟨#[]⟩, 0) .nil .nil)
def headY : Tn := ((⟨#[]⟩, 4), headYF)
theorem some_ok : (sgOf someL).Ok (arAt someL) := sg_ok (by decide +kernel)
theorem head_right : RightT (sgOf someL) (arAt someL) headX := errT_right (x := (⟨#[]⟩, 4)) (by decide +kernel) (by decide +kernel)
theorem head_canon : canonT (sgOf someL) headX = headY := by kernel_rfl
theorem headY_canon : canonT (sgOf someL) headY = headY := by rw [← head_canon]; exact canonT_twice some_ok head_right
theorem headY_right : RightT (sgOf someL) (arAt someL) headY := by rw [← head_canon]; exact right_of_can (canonT_can some_ok head_right)

set_option maxRecDepth 100000 in
theorem some_any (w : World) : Calls Try.prog 30 #[] w fun e w' => ∃ g, e = .returned (.slice (some ⟨g, 0, none⟩) 5 5) ∧ SigAt w' (some ⟨g, 0, none⟩) 5 someL ∧ Below w.heap.size w w' := by
  go_enter Try.func30, Try.ntmps30
  go_wp2
  go_ret
  refine ⟨w.heap.size, rfl, ⟨rfl, by decide, fun i hi => ⟨w.heap.size, 0, rfl, ?_⟩, ?_⟩, (Below.refl _ w).alloc (Nat.le_refl _) _⟩
  · have hb := Box.new w 45 #[.string bA, .int .i64 1, .int .i64 0, .string ⟨#[]⟩, .string bOne, .int .i64 1, .int .i64 0, .string ⟨#[]⟩, .string bF, .int .i64 1, .int .i64 2, .string ⟨#[]⟩, .string bPlus, .int .i64 2, .int .i64 2, .string ⟨#[]⟩, .string bTimes, .int .i64 3, .int .i64 2, .string bOne]
    have hi : i < 5 := hi
    match i, hi with
    | 0, _ => exact ⟨hb.c 0, hb.c 1, hb.c 2, hb.c 3⟩
    | 1, _ => exact ⟨hb.c 4, hb.c 5, hb.c 6, hb.c 7⟩
    | 2, _ => exact ⟨hb.c 8, hb.c 9, hb.c 10, hb.c 11⟩
    | 3, _ => exact ⟨hb.c 12, hb.c 13, hb.c 14, hb.c 15⟩
    | 4, _ => exact ⟨hb.c 16, hb.c 17, hb.c 18, hb.c 19⟩
  · intro x hx
    simp only [someL, List.mem_cons, List.not_mem_nil, or_false] at hx
    rcases hx with rfl | rfl | rfl | rfl | rfl <;> exact ⟨by decide, by decide⟩

set_option maxRecDepth 100000 in
set_option maxHeartbeats 8000000 in
theorem head_any (w : World) : Calls Try.prog 9 #[] w fun e w' => e = .returned (.bool true) ∧ Below w.heap.size w w' := by
  go_enter Try.func9, Try.ntmps9
  go_upto_region 2 with fail
  have HB0 : Hid (Below w.heap.size w (((w.alloc (.cells #[.string ⟨#[88]⟩, .int .i64 0, .slice none 0 0, .string ⟨#[]⟩, .int .i64 1, .slice none 0 0] 26)).alloc (.cells #[.string ⟨#[]⟩, .int .i64 0, .slice none 0 0, .string ⟨#[]⟩, .int .i64 4, .slice (some ⟨w.heap.size, 0, none⟩) 2 2] 26)).alloc (.cells #[.string ⟨#[]⟩, .int .i64 4, .slice (some ⟨w.heap.size + 1, 0, none⟩) 2 2] 26))) := (((Below.refl _ w).alloc (Nat.le_refl _) _).alloc (by simp) _).alloc (by simp; omega) _
  have B0 : Hid (Box (((w.alloc (.cells #[.string ⟨#[88]⟩, .int .i64 0, .slice none 0 0, .string ⟨#[]⟩, .int .i64 1, .slice none 0 0] 26)).alloc (.cells #[.string ⟨#[]⟩, .int .i64 0, .slice none 0 0, .string ⟨#[]⟩, .int .i64 4, .slice (some ⟨w.heap.size, 0, none⟩) 2 2] 26)).alloc (.cells #[.string ⟨#[]⟩, .int .i64 4, .slice (some ⟨w.heap.size + 1, 0, none⟩) 2 2] 26)) w.heap.size 26 #[.string ⟨#[88]⟩, .int .i64 0, .slice none 0 0, .string ⟨#[]⟩, .int .i64 1, .slice none 0 0]) := ((Box.new w 26 _).below ((Below.refl _ _).alloc (Nat.le_refl _) _)).below ((Below.refl _ _).alloc (Nat.le_refl _) _)
  have B1 : Hid (Box (((w.alloc (.cells #[.string ⟨#[88]⟩, .int .i64 0, .slice none 0 0, .string ⟨#[]⟩, .int .i64 1, .slice none 0 0] 26)).alloc (.cells #[.string ⟨#[]⟩, .int .i64 0, .slice none 0 0, .string ⟨#[]⟩, .int .i64 4, .slice (some ⟨w.heap.size, 0, none⟩) 2 2] 26)).alloc (.cells #[.string ⟨#[]⟩, .int .i64 4, .slice (some ⟨w.heap.size + 1, 0, none⟩) 2 2] 26)) (w.heap.size + 1) 26 #[.string ⟨#[]⟩, .int .i64 0, .slice none 0 0, .string ⟨#[]⟩, .int .i64 4, .slice (some ⟨w.heap.size, 0, none⟩) 2 2]) := by
    have := (Box.new (w.alloc (.cells #[.string ⟨#[88]⟩, .int .i64 0, .slice none 0 0, .string ⟨#[]⟩, .int .i64 1, .slice none 0 0] 26)) 26 #[.string ⟨#[]⟩, .int .i64 0, .slice none 0 0, .string ⟨#[]⟩, .int .i64 4, .slice (some ⟨w.heap.size, 0, none⟩) 2 2]).below ((Below.refl _ _).alloc (Nat.le_refl _) (.cells #[.string ⟨#[]⟩, .int .i64 4, .slice (some ⟨w.heap.size + 1, 0, none⟩) 2 2] 26))
    rw [World.size_alloc] at this
    exact this
  have B2 : Hid (Box (((w.alloc (.cells #[.string ⟨#[88]⟩, .int .i64 0, .slice none 0 0, .string ⟨#[]⟩, .int .i64 1, .slice none 0 0] 26)).alloc (.cells #[.string ⟨#[]⟩, .int .i64 0, .slice none 0 0, .string ⟨#[]⟩, .int .i64 4, .slice (some ⟨w.heap.size, 0, none⟩) 2 2] 26)).alloc (.cells #[.string ⟨#[]⟩, .int .i64 4, .slice (some ⟨w.heap.size + 1, 0, none⟩) 2 2] 26)) (w.heap.size + 1 + 1) 26 #[.string ⟨#[]⟩, .int .i64 4, .slice (some ⟨w.heap.size + 1, 0, none⟩) 2 2]) := by
    have := Box.new ((w.alloc (.cells #[.string ⟨#[88]⟩, .int .i64 0, .slice none 0 0, .string ⟨#[]⟩, .int .i64 1, .slice none 0 0] 26)).alloc (.cells #[.string ⟨#[]⟩, .int .i64 0, .slice none 0 0, .string ⟨#[]⟩, .int .i64 4, .slice (some ⟨w.heap.size, 0, none⟩) 2 2] 26)) 26 #[.string ⟨#[]⟩, .int .i64 4, .slice (some ⟨w.heap.size + 1, 0, none⟩) 2 2]
    rw [World.size_alloc, World.size_alloc] at this
    exact this
  generalize ((w.alloc (.cells #[.string ⟨#[88]⟩, .int .i64 0, .slice none 0 0, .string ⟨#[]⟩, .int .i64 1, .slice none 0 0] 26)).alloc (.cells #[.string ⟨#[]⟩, .int .i64 0, .slice none 0 0, .string ⟨#[]⟩, .int .i64 4, .slice (some ⟨w.heap.size, 0, none⟩) 2 2] 26)).alloc (.cells #[.string ⟨#[]⟩, .int .i64 4, .slice (some ⟨w.heap.size + 1, 0, none⟩) 2 2] 26) = W0 at HB0 B0 B1 B2 ⊢
  have HX : TmAt W0 (⟨#[]⟩, 4) (some ⟨w.heap.size + 1, 0, none⟩) 2 headX.2 := by
    refine ⟨⟨by decide, by decide, by decide, by decide⟩, .inr ⟨_, _, rfl, ⟨none, 0, B1.out.c 0, B1.out.c 1, B1.out.c 2, ⟨by decide, by decide, by decide, by decide⟩, .inl rfl⟩, ⟨some ⟨w.heap.size, 0, none⟩, 2, B1.out.c 3, B1.out.c 4, B1.out.c 5, ⟨by decide, by decide, by decide, by decide⟩, .inr ⟨_, _, rfl, ⟨none, 0, B0.out.c 0, B0.out.c 1, B0.out.c 2, ⟨by decide, by decide, by decide, by decide⟩, .inl rfl⟩, ⟨none, 0, B0.out.c 3, B0.out.c 4, B0.out.c 5, ⟨by decide, by decide, by decide, by decide⟩, .inl rfl⟩, trivial⟩⟩, trivial⟩⟩
  have HC : Hid (∀ W g, SigAt W (some ⟨g, 0, none⟩) 5 someL → Below W0.heap.size W0 W → Calls Try.prog 11 #[.slice (some ⟨g, 0, none⟩) 5 5, .agg #[.string ⟨#[]⟩, .int .i64 4, .slice (some ⟨w.heap.size + 1, 0, none⟩) 2 2]] W fun e w' => ∃ a c, e = .returned (.agg #[.string ⟨#[]⟩, .int .i64 4, .slice a 2 c]) ∧ SepTm w' (fun q => W.heap.size ≤ q) (⟨#[]⟩, 4) a c headYF ∧ Below W.heap.size W w') := fun W g hS hb => by
    refine (pcanon_any (some ⟨g, 0, none⟩) 5 5 someL headX (some ⟨w.heap.size + 1, 0, none⟩) 2 W hS (HX.below hb) (by decide)).mono ?_
    rintro e w' ⟨k, rfl, hr, hE, hbb⟩
    have hk : k.tn = headY := by rw [hr.2 some_ok head_right, head_canon]
    obtain ⟨kx, kl, ka, kc⟩ := k
    have e1 : kx = (⟨#[]⟩, 4) := congrArg Prod.fst hk
    have e2 : kl = headYF := congrArg Prod.snd hk
    subst e1 e2
    exact ⟨ka, kc, rfl, hE.1, hbb⟩
  have c0 : W0.cell? ⟨w.heap.size + 1 + 1, 0, none⟩ = some (.string ⟨#[]⟩) := B2.out.c 0
  have c1 : W0.cell? ⟨w.heap.size + 1 + 1, 1, none⟩ = some (.int .i64 4) := B2.out.c 1
  have c2 : W0.cell? ⟨w.heap.size + 1 + 1, 2, none⟩ = some (.slice (some ⟨w.heap.size + 1, 0, none⟩) 2 2) := B2.out.c 2
  clear HX B0 B1 B2
  go_cut [2] (fun v wc => ∃ By a c, v = .pointer (some ⟨By, 0, none⟩) ∧ XBox wc By (⟨#[]⟩, 4) (.slice a 2 c) ∧ TmAt wc (⟨#[]⟩, 4) a c headYF ∧ Below W0.heap.size W0 wc)
  case first =>
    go_region_held3 (fun w' => w'.cell? ⟨w.heap.size + 1 + 1, 0, none⟩ = some (.string ⟨#[]⟩) ∧ w'.cell? ⟨w.heap.size + 1 + 1, 1, none⟩ = some (.int .i64 4) ∧ w'.cell? ⟨w.heap.size + 1 + 1, 2, none⟩ = some (.slice (some ⟨w.heap.size + 1, 0, none⟩) 2 2)) ((first
      | (go_split_ands; refine ⟨?_, ?_, ?_⟩ <;> (with_reducible refine below_cell HB2.out _ _ ?_; assumption))
      | (go_split_ands; refine ⟨?_, ?_, ?_⟩ <;> (with_reducible refine below_cell (HB2.out.alloc HB2.out.size _) _ _ ?_; assumption))
      | (go_split_ands; refine ⟨?_, ?_, ?_⟩ <;> (with_reducible refine below_cell HB1.out _ _ ?_; assumption))
      | (go_split_ands; refine ⟨?_, ?_, ?_⟩ <;> (with_reducible refine below_cell (HB1.out.alloc HB1.out.size _) _ _ ?_; assumption))
      | (go_split_ands; refine ⟨?_, ?_, ?_⟩ <;> (with_reducible refine below_cell ((Below.refl _ W0).alloc (Nat.le_refl _) _) _ _ ?_; assumption))
      | (go_split_ands; refine ⟨?_, ?_, ?_⟩ <;> (with_reducible refine below_cell (sets_below HB2.out (Nat.le_refl _) _ _ _) _ _ ?_; assumption))
      | (go_split_ands; refine ⟨?_, ?_, ?_⟩ <;> (with_reducible refine below_cell (sets_below HB2.out HB1.out.size _ _ _) _ _ ?_; assumption))
      | go_keep | fail)) ((first
      | (go_at_call 30; refine Calls.mono (some_any _) ?_; rintro e w1 ⟨g1, rfl, hs1, hb1⟩; have HS1 := hid hs1; first | (have HB1 : Hid (Below W0.heap.size W0 w1) := ((Below.refl _ W0).drew).trans hb1; clear hs1 hb1) | (have HB1 : Hid (Below W0.heap.size W0 w1) := (((Below.refl _ W0).alloc (Nat.le_refl _) _).drew).trans (hb1.mono (by show _ ≤ (W0.alloc _).heap.size; rw [World.size_alloc]; omega)); have HY1 : Hid (XBox w1 W0.heap.size (⟨#[]⟩, 0) (.slice none 0 0)) := XBox.below (W := World.drew (World.alloc W0 (.cells #[.string ⟨#[]⟩, .int .i64 0, .slice none 0 0] 26))) (heap_alloc_new W0 _) hb1; clear hs1 hb1))
      | (go_at_call 11; refine Calls.mono (HC.out _ g1 (by first | exact HS1.out | exact HS1.out.below ((Below.refl _ w1).alloc (Nat.le_refl _) _)) (by first | exact HB1.out | exact HB1.out.alloc HB1.out.size _)) ?_; rintro e w2 ⟨a2, c2', rfl, ht2, hb2⟩; first | (have HT2 : Hid (SepTm w2 (fun q => q ≠ W0.heap.size) (⟨#[]⟩, 4) a2 c2' headYF) := SepTm.mono (fun q hq => by have := HY1.out.lt; omega) ht2; have HB2 : Hid (Below W0.heap.size W0 w2) := HB1.out.trans (hb2.mono HB1.out.size); have HY2 := hid (HY1.out.below hb2); have y0 := HY2.out.c0; have y1 := HY2.out.c1; have y2 := HY2.out.c2; have z0 := HY2.out.f (k := 0); have z1 := HY2.out.f (k := 1); have z2 := HY2.out.f (k := 2); clear ht2 hb2) | (have HB2 : Hid (Below W0.heap.size W0 w2) := HB1.out.trans (hb2.mono HB1.out.size); have HT2 : Hid (SepTm w2 (fun _ => True) (⟨#[]⟩, 4) a2 c2' headYF) := SepTm.mono (fun _ _ => trivial) ht2; clear ht2 hb2) | (have HT2 : Hid (SepTm w2 (fun q => q ≠ w1.heap.size) (⟨#[]⟩, 4) a2 c2' headYF) := SepTm.mono (fun q hq => by rw [World.size_alloc] at hq; omega) ht2; have HB2 : Hid (Below W0.heap.size W0 w2) := (HB1.out.alloc HB1.out.size _).trans (hb2.mono (by rw [World.size_alloc]; have := HB1.out.size; omega)); have HY2 : Hid (XBox w2 w1.heap.size (⟨#[]⟩, 0) (.slice none 0 0)) := XBox.below (W := World.alloc w1 (.cells #[.string ⟨#[]⟩, .int .i64 0, .slice none 0 0] 26)) (heap_alloc_new w1 _) hb2; have y0 := HY2.out.c0; have y1 := HY2.out.c1; have y2 := HY2.out.c2; have z0 := HY2.out.f (k := 0); have z1 := HY2.out.f (k := 1); have z2 := HY2.out.f (k := 2); clear ht2 hb2))
      | fail))
    all_goals (go_wp2_with fail; go_meet)
    all_goals first
      | exact ⟨w2.heap.size, a2, c2', rfl, World.alloc_heap_new w2 _, (SepTm.tm HT2.out).below ((Below.refl _ _).alloc (Nat.le_refl _) _), HB2.out.alloc HB2.out.size _⟩
      | exact ⟨W0.heap.size, a2, c2', rfl, HY2.out.all (x := (⟨#[]⟩, 4)) _, SepTm.tm (HT2.out.keep (fun q hq _ => sets_far hq _ _ _)), sets_below HB2.out (Nat.le_refl _) _ _ _⟩
      | exact ⟨w1.heap.size, a2, c2', rfl, HY2.out.all (x := (⟨#[]⟩, 4)) _, SepTm.tm (HT2.out.keep (fun q hq _ => sets_far hq _ _ _)), sets_below HB2.out HB1.out.size _ _ _⟩
  case rest =>
    obtain ⟨By, ya, yc, rfl, hy, hty, hby⟩ := hcut
    have HBY := hid hby
    obtain ⟨yb, yo, rfl, hk⟩ := hty.args.get (by decide)
    have HI : Hid (∀ W g, SigAt W (some ⟨g, 0, none⟩) 5 someL → Below wc.heap.size wc W → Calls Try.prog 12 #[.slice (some ⟨g, 0, none⟩) 5 5, .agg #[.string ⟨#[]⟩, .int .i64 4, .slice (some ⟨yb, yo, none⟩) 2 yc]] W fun e w' => e = .returned (.bool true) ∧ Below W.heap.size W w') := fun W g hS hb => by
      refine (pis_any (some ⟨g, 0, none⟩) 5 5 someL headY (some ⟨yb, yo, none⟩) yc W hS (hty.below hb) (by decide)).mono ?_
      rintro e w' ⟨r, hr, rfl, hbb⟩
      have : r = headY := by rw [hr.2 some_ok headY_right, headY_canon]
      rw [this, show (cmpN headY headY == 0) = true by decide +kernel]
      exact ⟨rfl, hbb⟩
    have y0 := hy.c0; have y1 := hy.c1; have y2 := hy.c2
    obtain ⟨⟨ka, kc, k0, _, _, _, _⟩, ⟨kb, kd, _, k4, _, _, _⟩, _⟩ := hk
    have k0' : wc.cell? ⟨yb, yo, none⟩ = some (.string ⟨#[88]⟩) := k0
    have k4' : wc.cell? ⟨yb, yo + 3 + 1, none⟩ = some (.int .i64 0) := k4
    have hyc : 2 ≤ yc := hty.sizes.len
    have hyc2 : yc ≤ 9223372036854775807 := hty.sizes.cap
    clear k0 k4 hy hty hby
    go_upto_region 3 with fail
    go_region_held3 (fun w' => w'.cell? ⟨By, 0, none⟩ = some (.string ⟨#[]⟩) ∧ w'.cell? ⟨By, 1, none⟩ = some (.int .i64 4) ∧ w'.cell? ⟨By, 2, none⟩ = some (.slice (some ⟨yb, yo, none⟩) 2 yc) ∧ w'.cell? ⟨yb, yo, none⟩ = some (.string ⟨#[88]⟩) ∧ w'.cell? ⟨yb, yo + 3 + 1, none⟩ = some (.int .i64 0)) ((first
      | (go_split_ands; refine ⟨?_, ?_, ?_, ?_, ?_⟩ <;> (with_reducible refine below_cell HB2.out _ _ ?_; assumption))
      | (go_split_ands; refine ⟨?_, ?_, ?_, ?_, ?_⟩ <;> (with_reducible refine below_cell HB1.out _ _ ?_; assumption))
      | go_keep | fail)) ((first
      | (go_at_call 30; refine Calls.mono (some_any _) ?_; rintro e w1 ⟨g1, rfl, hs1, hb1⟩; have HS1 := hid hs1; have HB1 : Hid (Below wc.heap.size wc w1) := ((Below.refl _ wc).drew).trans hb1; clear hs1 hb1)
      | (go_at_call 12; refine Calls.mono (HI.out _ g1 HS1.out HB1.out) ?_; rintro e w2 ⟨rfl, hb2⟩; have HB2 : Hid (Below wc.heap.size wc w2) := HB1.out.trans (hb2.mono HB1.out.size); clear hb2)
      | fail))
    all_goals go_wp2_with fail
    all_goals go_ret
    all_goals exact ⟨rfl, HB0.out.trans ((HBY.out.mono HB0.out.size).trans (HB2.out.mono (Nat.le_trans HB0.out.size HBY.out.size)))⟩
end Go.Proofs.Ytlemkgdbefmeeaa
/- How a term that came in is opened into a forest. -/
namespace Go.Proofs.Ytlemkgdbefmeeaa
open Go.ChangeShapes Go.WideShapes Go.ChangeAt Go.RowKit Go.Deep

theorem own : ownKnob Try.prog.godebug = none := by kernel_rfl
theorem laidOut : laidOutB Try.prog = true := by kernel_rfl
theorem addr_add (b off i : Nat) : (⟨b, off, none⟩ : Addr).add i = ⟨b, off + i, none⟩ := by
  unfold Addr.add
  split
  · rename_i h; subst h; rfl
  · rfl
theorem Try.cells26 : Try.prog.cellsOf 26 = 3 := by kernel_rfl
theorem Try.cells24 : Try.prog.cellsOf 24 = 1 := by kernel_rfl
theorem Try.cells9 : Try.prog.cellsOf 9 = 1 := by kernel_rfl
theorem Try.cells3 : Try.prog.cellsOf 3 = 1 := by kernel_rfl
theorem Try.bytes26 : Try.prog.bytesOf 26 = 48 := by kernel_rfl


/-- Small enough, by one of the two forms' bounds. -/
def Sz {H : Type} (d : DataW H) : Prop := (∀ m ∈ d.weights Try.prog 26, m ≤ 140737488351232) ∨ Rows.uptoBulk d ≤ 1048576
theorem weights_all {H : Type} {e : TypeId} {m : Nat} : ∀ {ds : List (DataW H)} {d : DataW H}, d ∈ ds → m ∈ d.weights Try.prog e → m ∈ DataW.weightsAll Try.prog e ds
  | d' :: r, d, hd, hm => by
    simp only [DataW.weightsAll, List.mem_append]
    rcases List.mem_cons.1 hd with rfl | h
    · exact .inl hm
    · exact .inr (weights_all h hm)
theorem bulk_all {H : Type} : ∀ {ds : List (DataW H)} {d : DataW H}, d ∈ ds → Rows.uptoBulk d ≤ Rows.uptoBulkAll ds
  | d' :: r, d, hd => by
    simp only [Rows.uptoBulkAll]
    rcases List.mem_cons.1 hd with rfl | h
    · omega
    · have := bulk_all h; omega
theorem bulk_pos {H : Type} (d : DataW H) : 1 ≤ Rows.uptoBulk d := by
  cases d with
  | lit l => cases l <;> simp [Rows.uptoBulk]
  | _ => simp [Rows.uptoBulk]
theorem bulk_len {H : Type} : ∀ ds : List (DataW H), ds.length ≤ Rows.uptoBulkAll ds
  | [] => Nat.le_refl _
  | d :: r => by
    have := bulk_len r
    have := bulk_pos d
    simp only [Rows.uptoBulkAll, List.length_cons]; omega

/-- Terms side by side make a forest. -/
theorem forest_of {H : Type} {W : World} {b : Nat} : ∀ (ds : List (DataW H × List MemPlace)) (o : Nat),
    (∀ (i : Nat) (h : i < ds.length), ∃ (p : ByteArray × Int) (a : Option Addr) (c : Nat) (l : Fo), (W.cell? ⟨b, o + i * 3, none⟩ = some (.string p.1) ∧ W.cell? ⟨b, o + i * 3 + 1, none⟩ = some (.int .i64 p.2) ∧ W.cell? ⟨b, o + i * 3 + 2, none⟩ = some (.slice a (lenF l) c)) ∧ TmAt W p a c l ∧ nodesF l + 1 ≤ Rows.uptoBulk ds[i].1) →
    ∃ F : Fo, lenF F = ds.length ∧ KidsAt W F b o ∧ nodesF F ≤ Rows.uptoBulkAll (ds.map (·.1))
  | [], o, _ => ⟨.nil, rfl, trivial, Nat.zero_le _⟩
  | d :: r, o, h => by
    obtain ⟨F, hl, hk, hn⟩ := forest_of r (o + 3) (fun i hi => by
      obtain ⟨p, a, c, l, ⟨h0, h1, h2⟩, h3, h4⟩ := h (i + 1) (by simpa using hi)
      rw [show o + (i + 1) * 3 = o + 3 + i * 3 by omega] at h0 h1 h2
      exact ⟨p, a, c, l, ⟨h0, h1, h2⟩, h3, h4⟩)
    obtain ⟨p, a, c, l, ⟨h0, h1, h2⟩, h3, h4⟩ := h 0 (by simp)
    simp only [Nat.zero_mul, Nat.add_zero, List.getElem_cons_zero] at h0 h1 h2 h4
    refine ⟨.node 0 0 p l F, by simp [lenF, hl], ⟨⟨a, c, h0, h1, h2, h3.sizes, h3.args⟩, hk⟩, ?_⟩
    simp only [nodesF, List.map_cons, Rows.uptoBulkAll]
    omega

set_option maxRecDepth 100000 in
theorem term_open {H : Type} {enc : TypeId × Value → H} {W : World} : ∀ (fuel : Nat) (cs : List Value) (x : DataW H × List MemPlace), DataW.trod enc Try.prog W 0 (fun _ => true) true fuel 26 cs = some x → Sz x.1 →
    ∃ (p : ByteArray × Int) (a : Option Addr) (c : Nat) (l : Fo), cs = [.string p.1, .int .i64 p.2, .slice a (lenF l) c] ∧ TmAt W p a c l ∧ nodesF l + 1 ≤ Rows.uptoBulk x.1 := by
  intro fuel
  induction fuel using Nat.strongRecOn with
  | _ fuel ih =>
    intro cs x h hz
    obtain ⟨xs, n, hfuel, hx, hl, hlen, hf⟩ := DataW.trod_struct Try.underlying26 h
    rw [Try.cells26] at hl
    match xs, hlen, cs, hl with
    | [y0, y1, y2], _, [v0, v1, v2], _ =>
      have g0 := hf 0 _ rfl
      have g1 := hf 1 _ rfl
      have g2 := hf 2 _ rfl
      simp [Try.cells9, Try.cells3, Try.cells24] at g0 g1 g2
      obtain ⟨s0, e0, k0, f0⟩ := DataW.trod_string Try.underlying9 g0
      obtain ⟨n1, e1, k1, _⟩ := DataW.trod_int Try.underlying3 g1
      simp at e0 e1
      subst e0 e1 hx
      rcases DataW.trod_slice Try.underlying24 g2 with ⟨hcs, h2⟩ | ⟨ad, len, c, elems, rest, n', hn', hcs, h2, _, hlc, hcm, hlen2, hel, _, _⟩
      · simp at hcs
        subst hcs
        exact ⟨(s0, n1), none, 0, .nil, rfl, ⟨⟨f0, by simp [lenF], by simp, by simp [lenF]⟩, .inl rfl⟩, by simp [nodesF, Rows.uptoBulk, Rows.uptoBulkAll]⟩
      · simp at hcs
        subst hcs
        rw [Try.cells26] at hel
        have hb2 : Rows.uptoBulkAll (elems.map (·.1)) + 1 ≤ Rows.uptoBulk (DataW.agg (List.map (·.1) [y0, y1, y2])) := by
          simp only [List.map_cons, List.map_nil, Rows.uptoBulk, Rows.uptoBulkAll, h2]; omega
        have hsub : ∀ d ∈ elems, Sz d.1 := by
          intro d hd
          rcases hz with hz | hz
          · refine .inl fun m hm => hz m ?_
            have : m ∈ DataW.weightsAll Try.prog 26 (elems.map (·.1)) := weights_all (List.mem_map_of_mem hd) hm
            simp [DataW.weights, Try.underlying26, DataW.weightsEach, h2, Try.underlying24, this]
          · refine .inr ?_
            have := bulk_all (List.mem_map_of_mem (f := (·.1)) hd)
            simp only at hz
            omega
        have hfew : len * 48 ≤ 140737488351232 := by
          rcases hz with hz | hz
          · have := hz ((elems.length + rest.length) * 48) (by simp [DataW.weights, Try.underlying26, DataW.weightsEach, h2, Try.underlying24, Try.bytes26])
            rw [hlen2] at this
            omega
          · have := bulk_len (elems.map (·.1))
            rw [List.length_map, hlen2] at this
            simp only at hz
            omega
        have each : ∀ i (hi : i < elems.length), ∃ (p : ByteArray × Int) (a : Option Addr) (c : Nat) (l : Fo), W.cells? 0 (ad.add (i * 3)) 3 = some [.string p.1, .int .i64 p.2, .slice a (lenF l) c] ∧ TmAt W p a c l ∧ nodesF l + 1 ≤ Rows.uptoBulk elems[i].1 := by
          intro i hi
          have h1 := hel i (by omega)
          rw [List.getElem?_eq_getElem hi] at h1
          cases hc : W.cells? 0 (ad.add (i * 3)) 3 with
          | none => rw [hc] at h1; cases h1
          | some cs' =>
            rw [hc] at h1
            obtain ⟨p, a, c, l, rfl, h3, h4⟩ := ih n' (by omega) cs' elems[i] h1 (hsub _ (List.getElem_mem hi))
            exact ⟨p, a, c, l, rfl, h3, h4⟩
        by_cases hz0 : len = 0
        · subst hz0
          exact ⟨(s0, n1), some ad, c, .nil, rfl, ⟨⟨f0, by simp [lenF], hcm, by simp [lenF]⟩, .inl rfl⟩, by simp only [nodesF]; omega⟩
        · obtain ⟨b, off, spot⟩ := ad
          have hspot : spot = none := by
            obtain ⟨p, a, c, l, h3, _⟩ := each 0 (by omega)
            obtain ⟨_, _, h30⟩ := World.cells?_some h3
            have := h30 0 (by omega)
            simpa [Addr.add] using World.cell?_spot this
          subst hspot
          obtain ⟨F, hFl, hFk, hFn⟩ := forest_of (W := W) (b := b) elems off (fun i hi => by
            obtain ⟨p, a, c, l, h3, h4, h5⟩ := each i hi
            rw [addr_add] at h3
            obtain ⟨_, _, h30⟩ := World.cells?_some h3
            have q0 := h30 0 (by omega)
            have q1 := h30 1 (by omega)
            have q2 := h30 2 (by omega)
            rw [addr_add] at q0 q1 q2
            exact ⟨p, a, c, l, ⟨q0, q1, q2⟩, h4, h5⟩)
          have hFl' : lenF F = len := by rw [hFl, hlen2]
          exact ⟨(s0, n1), some ⟨b, off, none⟩, c, F, by rw [hFl'], ⟨⟨f0, by omega, hcm, by rw [hFl']; exact hfew⟩, .inr ⟨b, off, rfl, hFk⟩⟩, Nat.le_trans (Nat.succ_le_succ hFn) hb2⟩

set_option maxRecDepth 100000 in
/-- A term that came in. -/
theorem termv_open {H : Type} {enc : TypeId × Value → H} {W : World} {r : Reach} {b0 : Nat} {v : Value} {d : DataW H} {ps : List MemPlace} (hv : Value.okWide Try.prog W r b0 26 v)
    (h : DataW.Trod enc Try.prog W 0 (fun _ => true) true 26 v d ps) (hz : Sz d) :
    ∃ (p : ByteArray × Int) (a : Option Addr) (c : Nat) (l : Fo), v = .agg #[.string p.1, .int .i64 p.2, .slice a (lenF l) c] ∧ TmAt W p a c l ∧ nodesF l + 1 ≤ Rows.uptoBulk d := by
  obtain ⟨cs, rfl, hsz⟩ := okWide_struct Try.underlying26 hv
  obtain ⟨c0, c1, c2, rfl⟩ := Joins.array3 (hsz.trans Try.cells26)
  obtain ⟨fuel, hf⟩ := h
  obtain ⟨p, a, c, l, hcs, h1, h2⟩ := term_open fuel _ _ hf hz
  simp [Value.cells] at hcs
  obtain ⟨rfl, rfl, rfl⟩ := hcs
  exact ⟨p, a, c, l, rfl, h1, h2⟩
/-- Within the first form's reach. -/
theorem sz_of_weights {H : Type} {ts : List TypeId} {ds : List (DataW H)} {j : Nat} {d : DataW H} (h : (DataW.weightsEach Try.prog ts ds).all (· ≤ reachBytes) = true) (ht : ts[j]? = some 26) (hd : ds[j]? = some d) : Sz d :=
  .inl fun m hm => by
    have := List.all_eq_true.1 h _ (DataW.weights_mem_each ht hd m hm)
    have e : reachBytes = 140737488351232 := rfl
    rw [e] at this
    simpa using this
end Go.Proofs.Ytlemkgdbefmeeaa
/- How what a statement of layer 4 is asked about is opened: a signature, two terms, a symbol's place, a list of terms. -/
namespace Go.Proofs.Ytlemkgdbefmeeaa
open Go.ChangeShapes Go.WideShapes Go.ChangeAt Go.RowKit Go.Deep

set_option maxRecDepth 100000 in
theorem list_of_each {α : Type} {p : Nat → α → Prop} : ∀ n : Nat, (∀ i, i < n → ∃ x, p i x) → ∃ l : List α, l.length = n ∧ ∀ i (h : i < l.length), p i l[i]
  | 0, _ => ⟨[], rfl, fun i h => absurd h (by simp)⟩
  | n + 1, h => by
    obtain ⟨l, hl, hp⟩ := list_of_each n (fun i hi => h i (by omega))
    obtain ⟨x, hx⟩ := h n (by omega)
    refine ⟨l ++ [x], by simp [hl], fun i hi => ?_⟩
    by_cases hin : i < l.length
    · rw [List.getElem_append_left hin]; exact hp i hin
    · have : i = n := by simp at hi; omega
      subst this
      rw [List.getElem_append_right (by omega)]
      simpa [hl] using hx

set_option maxRecDepth 100000 in
theorem Try.cells45 : Try.prog.cellsOf 45 = 4 := by kernel_rfl
set_option maxRecDepth 100000 in
theorem Try.cells43 : Try.prog.cellsOf 43 = 1 := by kernel_rfl
set_option maxRecDepth 100000 in
theorem Try.bytes45 : Try.prog.bytesOf 45 = 48 := by kernel_rfl

set_option maxRecDepth 100000 in
/-- One symbol's reading. -/
theorem sym_open {H : Type} {enc : TypeId × Value → H} {W : World} {base : Nat} {spare : Nat → Bool} {held : Bool} {fuel : Nat} {cs : List Value} {x : DataW H × List MemPlace}
    (h : DataW.trod enc Try.prog W base spare held fuel 45 cs = some x) : ∃ y : Sym, cs = [.string y.name, .int .i64 y.kind, .int .i64 y.arity, .string y.unit] ∧ y.Fits := by
  obtain ⟨y0, y1, y2, y3, n, _, hl, h0, h1, h2, h3⟩ := Joins.trod_struct4 Try.underlying45 h
  rw [Try.cells45] at hl
  simp only [Try.cells9, Try.cells43, Try.cells3] at h0 h1 h2 h3
  match cs, hl with
  | [c0, c1, c2, c3], _ =>
    obtain ⟨s0, e0, _, f0⟩ := DataW.trod_string Try.underlying9 h0
    obtain ⟨n1, e1, _, _⟩ := DataW.trod_int Try.underlying43 h1
    obtain ⟨n2, e2, _, _⟩ := DataW.trod_int Try.underlying3 h2
    obtain ⟨s3, e3, _, f3⟩ := DataW.trod_string Try.underlying9 h3
    simp at e0 e1 e2 e3
    subst e0 e1 e2 e3
    exact ⟨⟨s0, n1, n2, s3⟩, rfl, f0, f3⟩

set_option maxRecDepth 100000 in
theorem sig_open {H : Type} {enc : TypeId × Value → H} {W : World} {fuel : Nat} {v : Value} {y : DataW H × List MemPlace}
    (hf : DataW.trod enc Try.prog W 0 (fun _ => true) true fuel 23 [v] = some y) :
    ∃ a len cap l, v = .slice a len cap ∧ SigAt W a len l ∧ len ≤ cap := by
  rcases DataW.trod_slice Try.underlying23 hf with ⟨hcs, _⟩ | ⟨x, len, cap, elems, rest, n, _, hcs, hx, hb, hl, hm, hlen, hel, _, _⟩
  · simp at hcs
    subst hcs
    exact ⟨none, 0, 0, [], rfl, ⟨rfl, by simp, fun i hi => absurd hi (by simp), fun s hs => absurd hs (by simp)⟩, Nat.le_refl _⟩
  · simp at hcs
    subst hcs
    rw [Try.cells45] at hel
    have each : ∀ i, i < len → ∃ y : Sym, (∃ cs, W.cells? 0 (x.add (i * 4)) 4 = some cs ∧ cs = [.string y.name, .int .i64 y.kind, .int .i64 y.arity, .string y.unit]) ∧ y.Fits := by
      intro i hi
      have h1 := hel i hi
      rw [List.getElem?_eq_getElem (by omega)] at h1
      cases hc : W.cells? 0 (x.add (i * 4)) 4 with
      | none => rw [hc] at h1; cases h1
      | some cs =>
        rw [hc] at h1
        obtain ⟨y, hy, hyf⟩ := sym_open h1
        exact ⟨y, ⟨cs, rfl, hy⟩, hyf⟩
    obtain ⟨ll, hll, hp⟩ := list_of_each len each
    refine ⟨some x, len, cap, ll, rfl, ⟨hll.symm, by omega, fun i hi => ?_, fun y hy => ?_⟩, hl⟩
    · obtain ⟨⟨cs, h1, h2⟩, _⟩ := hp i hi
      obtain ⟨b, off, spot⟩ := x
      have hspot : spot = none := by
        obtain ⟨⟨cs0, h10, h20⟩, _⟩ := hp 0 (by omega)
        obtain ⟨_, _, h30⟩ := World.cells?_some h10
        have := h30 0 (by omega)
        rw [h20] at this
        simpa [Addr.add] using World.cell?_spot this
      subst hspot
      refine ⟨b, off, rfl, ?_⟩
      rw [addr_add] at h1
      obtain ⟨_, _, h3⟩ := World.cells?_some h1
      subst h2
      have k0 := h3 0 (by omega)
      have k1 := h3 1 (by omega)
      have k2 := h3 2 (by omega)
      have k3 := h3 3 (by omega)
      rw [addr_add] at k0 k1 k2 k3
      exact ⟨k0, k1, k2, k3⟩
    · obtain ⟨i, hi, rfl⟩ := List.getElem_of_mem hy
      exact (hp i hi).2


set_option maxRecDepth 100000 in
theorem Try.cells28 : Try.prog.cellsOf 28 = 9 := by kernel_rfl
set_option maxRecDepth 100000 in
theorem Try.cells23 : Try.prog.cellsOf 23 = 1 := by kernel_rfl
set_option maxRecDepth 100000 in
/-- A list of terms that came in. -/
theorem args_open {H : Type} {enc : TypeId × Value → H} {W : World} {fuel : Nat} {v : Value} {y : DataW H × List MemPlace} (hf : DataW.trod enc Try.prog W 0 (fun _ => true) true fuel 24 [v] = some y) (hz : Rows.uptoBulk y.1 ≤ 1048576) :
    ∃ a cap F, v = .slice a (lenF F) cap ∧ ArgsAt W a F ∧ nodesF F + 1 ≤ Rows.uptoBulk y.1 := by
  rcases DataW.trod_slice Try.underlying24 hf with ⟨hcs, h2⟩ | ⟨ad, len, c, elems, rest, n', hn', hcs, h2, _, hlc, hcm, hlen2, hel, _, _⟩
  · simp at hcs
    subst hcs
    exact ⟨none, 0, .nil, rfl, .inl rfl, bulk_pos _⟩
  · simp at hcs
    subst hcs
    rw [Try.cells26] at hel
    have hb2 : Rows.uptoBulkAll (elems.map (·.1)) + 1 ≤ Rows.uptoBulk y.1 := by
      simp only [h2, Rows.uptoBulk]; omega
    have hsub : ∀ d ∈ elems, Sz d.1 := by
      intro d hd
      refine .inr ?_
      have := bulk_all (List.mem_map_of_mem (f := (·.1)) hd)
      omega
    have each : ∀ i (hi : i < elems.length), ∃ (p : ByteArray × Int) (a : Option Addr) (c : Nat) (l : Fo), W.cells? 0 (ad.add (i * 3)) 3 = some [.string p.1, .int .i64 p.2, .slice a (lenF l) c] ∧ TmAt W p a c l ∧ nodesF l + 1 ≤ Rows.uptoBulk elems[i].1 := by
      intro i hi
      have h1 := hel i (by omega)
      rw [List.getElem?_eq_getElem hi] at h1
      cases hc : W.cells? 0 (ad.add (i * 3)) 3 with
      | none => rw [hc] at h1; cases h1
      | some cs' =>
        rw [hc] at h1
        obtain ⟨p, a, c, l, rfl, h3, h4⟩ := term_open n' cs' elems[i] h1 (hsub _ (List.getElem_mem hi))
        exact ⟨p, a, c, l, rfl, h3, h4⟩
    by_cases hz0 : len = 0
    · subst hz0
      exact ⟨some ad, c, .nil, rfl, .inl rfl, bulk_pos _⟩
    · obtain ⟨b, off, spot⟩ := ad
      have hspot : spot = none := by
        obtain ⟨p, a, c, l, h3, _⟩ := each 0 (by omega)
        obtain ⟨_, _, h30⟩ := World.cells?_some h3
        have := h30 0 (by omega)
        simpa [Addr.add] using World.cell?_spot this
      subst hspot
      obtain ⟨F, hFl, hFk, hFn⟩ := forest_of (W := W) (b := b) elems off (fun i hi => by
        obtain ⟨p, a, c, l, h3, h4, h5⟩ := each i hi
        rw [addr_add] at h3
        obtain ⟨_, _, h30⟩ := World.cells?_some h3
        have q0 := h30 0 (by omega)
        have q1 := h30 1 (by omega)
        have q2 := h30 2 (by omega)
        rw [addr_add] at q0 q1 q2
        exact ⟨p, a, c, l, ⟨q0, q1, q2⟩, h4, h5⟩)
      have hFl' : lenF F = len := by rw [hFl, hlen2]
      exact ⟨some ⟨b, off, none⟩, c, F, by rw [hFl'], .inr ⟨b, off, rfl, hFk⟩, by omega⟩
set_option maxRecDepth 100000 in
theorem two_open {H : Type} {enc : TypeId × Value → H} {W : World} {r : Reach} {b0 : Nat} {v : Value} {dd : DataW H} {ps : List MemPlace} (hv : Value.okWide Try.prog W r b0 28 v)
    (h : DataW.Trod enc Try.prog W 0 (fun _ => true) true 28 v dd ps) (hz : Rows.uptoBulk dd ≤ 1048576) :
    ∃ (S : Option Addr) (n cap : Nat) (l : List Sym) (A B : Tn) (a b : Option Addr) (c d : Nat) (f : Int) (La : Option Addr) (F : Fo) (lc : Nat), v = .agg (twoC S n cap A B a b c d f La F lc) ∧ TwoAt W S n l A B a b c d La F ∧ n ≤ cap ∧ nodesF A.2 + nodesF B.2 + nodesF F + 4 ≤ 1048576 := by
  obtain ⟨cs, rfl, hsz⟩ := okWide_struct Try.underlying28 hv
  obtain ⟨fuel, hf⟩ := h
  obtain ⟨xs, n, hfuel, hx, hl, hlen, hff⟩ := DataW.trod_struct Try.underlying28 hf
  rw [Try.cells28] at hsz
  simp only [Value.cells] at hff hl
  obtain ⟨cl⟩ := cs
  match xs, hlen, cl, hsz with
  | [y0, y1, y2, y3, y4], _, [v0, v1, v2, v3, v4, v5, v6, v7, v8], _ =>
    have g0 := hff 0 _ rfl
    have g1 := hff 1 _ rfl
    have g2 := hff 2 _ rfl
    have g3 := hff 3 _ rfl
    have g4 := hff 4 _ rfl
    simp [Try.cells23, Try.cells26, Try.cells3, Try.cells24] at g0 g1 g2 g3 g4
    have hd : Rows.uptoBulk y0.1 + Rows.uptoBulk y1.1 + Rows.uptoBulk y2.1 + Rows.uptoBulk y3.1 + Rows.uptoBulk y4.1 + 1 ≤ 1048576 := by
      have := congrArg Prod.fst hx
      simp only at this
      rw [this] at hz
      simp only [List.map_cons, List.map_nil, Rows.uptoBulk, Rows.uptoBulkAll] at hz
      omega
    obtain ⟨S, len, cap, l, rfl, hS, hcap⟩ := sig_open g0
    obtain ⟨pa, a, c, la, ea, hA, na⟩ := term_open n _ _ g1 (.inr (by omega))
    obtain ⟨pb, b, d, lb, eb, hB, nb⟩ := term_open n _ _ g2 (.inr (by omega))
    obtain ⟨f, e3, _, _⟩ := DataW.trod_int Try.underlying3 g3
    obtain ⟨La, lc, F, rfl, hF, nf⟩ := args_open g4 (by omega)
    simp at ea eb e3
    obtain ⟨rfl, rfl, rfl⟩ := ea
    obtain ⟨rfl, rfl, rfl⟩ := eb
    subst e3
    have := bulk_pos y0.1
    have := bulk_pos y3.1
    have hlF := len_nodes F
    exact ⟨S, len, cap, l, (pa, la), (pb, lb), a, b, c, d, f, La, F, lc, rfl, ⟨hS, hA, hB, hF, by omega⟩, hcap, by show nodesF la + nodesF lb + nodesF F + 4 ≤ _; omega⟩
end Go.Proofs.Ytlemkgdbefmeeaa
/- Of right terms: the order's nought is to be alike in every field. -/
namespace Go.Proofs.Ytlemkgdbefmeeaa
open Go.RowKit Go.Deep

theorem names_iff (a b : ByteArray) : a.toList = b.toList ↔ a = b := by
  constructor
  · intro h
    rw [ByteArray.toList_eq, ByteArray.toList_eq] at h
    exact bytes_eq h
  · rintro rfl; rfl
theorem cmpS_self {a : ByteArray} (h : noName a = false) : cmpS a a = 0 := by
  have := cmpN_anti ((a, 0), .nil) ((a, 0), .nil)
  have e : cmpN ((a, 0), .nil) ((a, 0), .nil) = cmpS a a := by unfold cmpN cmp1; rw [if_pos h, if_pos h]
  rw [e] at this
  omega
theorem right1_ex {S : Sg} {ar : Int → Nat} {x y : ByteArray × Int} {n m : Nat} {deep : Int} {ex : Bool} (hx : nodeOk S ar x n) (hy : nodeOk S ar y m) (hz : n = 0 → ex = true) (hd : n = m → (deep = 0 ↔ ex = true)) :
    cmp1 x y n m deep = 0 ↔ (((x.1.toList == y.1.toList) && (x.2 == y.2) && (n == m) && ex) = true) := by
  simp only [Bool.and_eq_true, beq_iff_eq, names_iff]
  unfold nodeOk at hx hy
  unfold cmp1
  cases e1 : noName x.1 <;> cases e2 : noName y.1 <;> simp only [e1, e2, if_true, if_false, Bool.true_eq_false] at hx hy ⊢
  · constructor
    · intro h
      exact ⟨⟨⟨bytes_eq (bytes_zero h), hx.1.trans hy.1.symm⟩, hx.2.trans hy.2.symm⟩, hz hx.2⟩
    · rintro ⟨⟨⟨h, _⟩, _⟩, _⟩
      rw [h]
      exact cmpS_self e2
  · constructor
    · intro h; omega
    · rintro ⟨⟨⟨h, _⟩, _⟩, _⟩
      rw [h, e2] at e1
      cases e1
  · constructor
    · intro h; omega
    · rintro ⟨⟨⟨h, _⟩, _⟩, _⟩
      rw [h, e2] at e1
      cases e1
  · have hn : x.1 = y.1 := (noName_eq e1).trans (noName_eq e2).symm
    by_cases h1 : x.2 = y.2
    · rw [if_pos h1]
      by_cases h2 : n = m
      · rw [if_pos h2, hd h2]
        simp [hn, h1, h2]
      · rw [if_neg h2]
        constructor
        · intro h; exact absurd (by have := compareInt_zero h; omega) h2
        · rintro ⟨⟨_, h⟩, _⟩; exact absurd h h2
    · rw [if_neg h1]
      constructor
      · intro h; exact absurd (compareInt_zero h) h1
      · rintro ⟨⟨⟨_, h⟩, _⟩, _⟩; exact absurd h h1
theorem exF_nil {F G : Fo} (h : lenF F = 0) : exF F G = true := by rw [len_nil h]; cases G <;> rfl
theorem rightF_ex {S : Sg} {ar : Int → Nat} : ∀ {F G : Fo}, RightF S ar F → RightF S ar G → lenF F = lenF G → (cmpF F G = 0 ↔ exF F G = true)
  | .nil, _, _, _, _ => by simp [cmpF, exF]
  | .node _ _ _ _ _, .nil, _, _, h => by simp [lenF] at h
  | .node _ _ x l r, .node _ _ y m s, hF, hG, h => by
    simp only [lenF, Nat.add_right_cancel_iff] at h
    obtain ⟨⟨h1, h2⟩, h3⟩ := hF
    obtain ⟨⟨k1, k2⟩, k3⟩ := hG
    have i1 := right1_ex (deep := cmpF l m) (ex := exF l m) h1 k1 (fun e => exF_nil e) (fun e => rightF_ex h2 k2 e)
    have i2 := rightF_ex h3 k3 h
    rw [cmpF, thenC, exF, Bool.and_eq_true, ← i1, ← i2]
    by_cases hz : cmp1 x y (lenF l) (lenF m) (cmpF l m) = 0
    · simp [hz]
    · simp [hz]
theorem right_ex {S : Sg} {ar : Int → Nat} {x y : Tn} (hx : RightT S ar x) (hy : RightT S ar y) : (cmpN x y == 0) = exN x.1 y.1 x.2 y.2 := by
  have := right1_ex (deep := cmpF x.2 y.2) (ex := exF x.2 y.2) hx.1 hy.1 (fun e => exF_nil e) (fun e => rightF_ex hx.2 hy.2 e)
  unfold cmpN exN
  rw [Bool.eq_iff_iff, beq_iff_eq]
  exact this
theorem is_same {l : List Sym} {t r : Tn} (h : rightB l t = true) (hr : CanR l t r) : (cmpN t r == 0) = exN (canonT (sgOf l) t).1 t.1 (canonT (sgOf l) t).2 t.2 := by
  obtain ⟨h1, h2⟩ := right_facts h
  rw [hr.2 h1 h2, ← right_ex (right_of_can (canonT_can h1 h2)) h2]
  have := cmpN_anti t (canonT (sgOf l) t)
  rw [Bool.eq_iff_iff, beq_iff_eq, beq_iff_eq]
  omega
theorem exN_self (x : Tn) : exN x.1 x.1 x.2 x.2 = true := by
  have go : ∀ F : Fo, exF F F = true := by
    intro F
    induction F with
    | nil => rfl
    | node _ _ x l r ihl ihr => simp [exF, ihl, ihr]
  unfold exN
  simp [go]
end Go.Proofs.Ytlemkgdbefmeeaa
/- What the statements of layer 4 hold in their boxes. -/
namespace Go.Proofs.Ytlemkgdbefmeeaa
open Go.RowKit Go.Deep

/-- What was handed in, and its box. -/
structure InSt (w : World) (cs : Array Value) (W : World) : Prop where
  low : Below w.heap.size w W
  box : WBox W w.heap.size cs
theorem InSt.below {w W W' : World} {cs : Array Value} (h : InSt w cs W) (hb : Below W.heap.size W W') : InSt w cs W' := ⟨h.low.trans (hb.mono h.low.size), h.box.below hb⟩
theorem InSt.new (w : World) (cs : Array Value) : InSt w cs (w.alloc (.cells cs 28)) := ⟨(Below.refl _ w).alloc (Nat.le_refl _) _, World.alloc_heap_new w _⟩
/-- A term that was lent, in a box. -/
structure LentAt (t : Tn) (g : Nat) (a : Option Addr) (c : Nat) (W : World) : Prop where
  box : XBox W g t.1 (.slice a (lenF t.2) c)
  own : OwnTm true (fun _ => True) W t.1 a c t.2
theorem LentAt.below {t : Tn} {g : Nat} {a : Option Addr} {c : Nat} {W W' : World} (h : LentAt t g a c W) (hb : Below W.heap.size W W') : LentAt t g a c W' := ⟨h.box.below hb, h.own.below hb⟩
theorem LentAt.new {t : Tn} {a : Option Addr} {c : Nat} {W : World} {P : Nat → Prop} (h : OwnTm true P W t.1 a c t.2) : LentAt t W.heap.size a c (W.alloc (.cells #[.string t.1.1, .int .i64 t.1.2, .slice a (lenF t.2) c] 26)) :=
  ⟨World.alloc_heap_new W _, (h.mono (fun _ _ _ => trivial)).below ((Below.refl _ _).alloc (Nat.le_refl _) _)⟩
theorem LentAt.tm {t : Tn} {g : Nat} {a : Option Addr} {c : Nat} {W : World} (h : LentAt t g a c W) : TmAt W t.1 a c t.2 := h.own.tm
theorem alloc_below (W : World) (o : Obj) : Below W.heap.size W (W.alloc o) := (Below.refl _ _).alloc (Nat.le_refl _) _

end Go.Proofs.Ytlemkgdbefmeeaa
/- What all proofs of layer 4 rest on. -/
namespace Go.Proofs.Ytlemkgdbefmeeaa
end Go.Proofs.Ytlemkgdbefmeeaa
