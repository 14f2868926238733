/- What the document's Same, Is, Equal and Right answer. -/
import Derived.Test.YtkcbhbkldcebiaaRExact
import Derived.Test.YtkcbhbkldcebiaaTRChkB
import Derived.Test.YtkcbhbkldcebiaaRChk
namespace Go.Proofs.Ytkcbhbkldcebiaa
open Go.RowKit Go.Deep

set_option maxRecDepth 100000 in
set_option maxHeartbeats 2000000 in
theorem sright_any (S : Option Addr) (n cap : Nat) (l : List Sym) (w : World) (hS : SigAt w S n l) :
    Calls Try.prog 27 #[.slice S n cap] w fun e w' => e = .returned (.bool (checkE l == 0)) ∧ Below w.heap.size w w' := by
  have HC : Hid (Calls Try.prog 49 #[.slice S n cap] w fun e w' => CheckRet l e ∧ Below w.heap.size w w') := rcheck_any S n cap l w hS
  clear hS
  go_enter Try.func27, Try.ntmps27
  go_wp2_with (go_at_call 49; refine HC.out.mono ?_; rintro e w1 ⟨he, hb1⟩; unfold CheckRet at he; subst he; have HB1 : Hid (Below w.heap.size w w1) := hb1; clear hb1)
  go_ret
  exact ⟨rfl, HB1.out⟩
def rightB (l : List Sym) (t : Tn) : Bool := (checkE l == 0) && (errT l t.1 t.2 == 0)
set_option maxRecDepth 100000 in
set_option maxHeartbeats 2000000 in
theorem rright_any (S : Option Addr) (n cap : Nat) (l : List Sym) (t : Tn) (a : Option Addr) (c : Nat) (w : World) (hS : SigAt w S n l) (hT : TmAt w t.1 a c t.2) :
    Calls Try.prog 23 #[.slice S n cap, .agg #[.string t.1.1, .int .i64 t.1.2, .slice a (lenF t.2) c]] w fun e w' => e = .returned (.bool (rightB l t)) ∧ Below w.heap.size w w' := by
  obtain ⟨⟨tn, ts⟩, tl⟩ := t
  obtain ⟨ev, hev⟩ : ∃ ev, errT l (tn, ts) tl = ev := ⟨_, rfl⟩
  have ON : Hid (TBox (w.alloc (.cells #[.string tn, .int .i64 ts, .slice a (lenF tl) c] 28)) w.heap.size (tn, ts) a (lenF tl) c) := TBox.new w (tn, ts) a (lenF tl) c
  have HB0 : Hid (Below w.heap.size w (w.alloc (.cells #[.string tn, .int .i64 ts, .slice a (lenF tl) c] 28))) := (Below.refl _ w).alloc (Nat.le_refl _) _
  have HS : Hid (∀ W, Below w.heap.size w W → Calls Try.prog 27 #[.slice S n cap] W fun e w' => e = .returned (.bool (checkE l == 0)) ∧ Below W.heap.size W w') := fun W hW => sright_any S n cap l W (hS.below hW)
  have HN : Hid (∀ W, Below w.heap.size w W → Calls Try.prog 48 #[.slice S n cap, .agg #[.string tn, .int .i64 ts, .slice a (lenF tl) c]] W fun e w' => e = .returned (.int .i64 ev) ∧ Below W.heap.size W w') := fun W hW => by
    have := nodes_all l _ S n cap (tn, ts) tl a c W (Nat.le_refl _) (hS.below hW) (hT.below hW)
    rw [hev] at this
    exact this
  clear hS hT
  cases hc : (checkE l == 0)
  · have e : Hid (rightB l ((tn, ts), tl) = false) := by show _ = _; unfold rightB; rw [hc]; rfl
    rw [hc] at HS
    go_enter Try.func23, Try.ntmps23
    go_wp2_with (go_at_call 27; refine (HS.out _ HB0.out).mono ?_; rintro e w1 ⟨rfl, hb1⟩; have HB1 : Hid (Below w.heap.size w w1) := HB0.out.trans (hb1.mono HB0.out.size); have hbx := ON.out.below hb1; have c0 := hbx.c0; have c1 := hbx.c1; have c2 := hbx.c2; clear hb1 hbx)
    go_ret
    exact ⟨by rw [e.out]; rfl, HB1.out⟩
  · have e : Hid (rightB l ((tn, ts), tl) = (ev == 0)) := by show _ = _; unfold rightB; rw [hc, ← hev]; rfl
    rw [hc] at HS
    clear hev
    go_enter Try.func23, Try.ntmps23
    go_wp2_with (first
      | (go_at_call 27; refine (HS.out _ HB0.out).mono ?_; rintro e w1 ⟨rfl, hb1⟩; have HB1 : Hid (Below w.heap.size w w1) := HB0.out.trans (hb1.mono HB0.out.size); have hbx := ON.out.below hb1; have c0 := hbx.c0; have c1 := hbx.c1; have c2 := hbx.c2; clear hb1 hbx)
      | (go_at_call 48; refine (HN.out _ HB1.out).mono ?_; rintro e w2 ⟨rfl, hb2⟩; have HB2 : Hid (Below w.heap.size w w2) := HB1.out.trans (hb2.mono HB1.out.size); clear hb2))
    go_ret
    exact ⟨by rw [e.out]; rfl, HB2.out⟩
end Go.Proofs.Ytkcbhbkldcebiaa
