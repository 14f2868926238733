/- The live question that each statement of layer 1 asks first: it is answered yes. -/
import Derived.Test.YtpngaeabkmbefaaChk
import Derived.Test.YtpngaeabkmbefaaUnit
namespace Go.Proofs.Ytpngaeabkmbefaa
open Go.RowKit

def someL : List Sym := [⟨⟨#[97]⟩, 1, 0, ⟨#[]⟩⟩, ⟨⟨#[111, 110, 101]⟩, 1, 0, ⟨#[]⟩⟩, ⟨⟨#[102]⟩, 1, 2, ⟨#[]⟩⟩, ⟨⟨#[112, 108, 117, 115]⟩, 2, 2, ⟨#[]⟩⟩, ⟨⟨#[116, 105, 109, 101, 115]⟩, 3, 2, ⟨#[111, 110, 101]⟩⟩]
theorem some_checkE : checkE someL = 0 := by decide +kernel
theorem some_checkP : checkP someL = 0 := by decide +kernel
theorem some_unitI : unitI someL 4 = 1 := by decide +kernel
theorem some_unitOk : unitOk someL 4 = true := by decide +kernel
theorem name_f2 : nameB ⟨#[102, 50]⟩ = true := by decide +kernel
theorem var_1 : varB ⟨#[95, 49]⟩ = true := by decide +kernel

set_option maxHeartbeats 400000 in
theorem some_any (w : World) : Calls Try.prog 27 #[] w fun e w' => ∃ a, e = .returned (.slice a 5 5) ∧ SigAt w' a 5 someL ∧ Below w.heap.size w w' := by
  go_enter Try.func27, Try.ntmps27
  go_wp2
  go_ret
  refine ⟨_, rfl, ⟨rfl, by decide, ?_, ?_⟩, (Below.refl _ _).alloc (Nat.le_refl _) _⟩
  · intro i hi
    refine ⟨w.heap.size, 0, rfl, ?_⟩
    rcases i with _ | _ | _ | _ | _ | i
    all_goals first | (simp [someL] at hi; omega) | exact ⟨by simp [go_sem, someL], by simp [go_sem, someL], by simp [go_sem, someL], by simp [go_sem, someL]⟩
  · intro x hx
    simp [someL] at hx
    rcases hx with rfl | rfl | rfl | rfl | rfl <;> exact ⟨by decide, by decide⟩

set_option maxHeartbeats 400000 in
theorem head_any (w : World) : Calls Try.prog 9 #[] w fun e w' => e = .returned (.bool true) ∧ Below w.heap.size w w' := by
  go_enter Try.func9, Try.ntmps9
  go_wp2_with fail
  refine (some_any _).mono ?_
  rintro e w1 ⟨a1, rfl, hs1, hb1⟩
  go_wp2_with fail
  refine (scheck_any _ _ _ (Nat.le_refl _) _ _ hs1).mono ?_
  rintro e w2 ⟨he, hb2⟩
  unfold CheckRet at he
  rw [some_checkE, some_checkP] at he
  subst he
  go_wp2_with fail
  refine (some_any _).mono ?_
  rintro e w3 ⟨a3, rfl, hs3, hb3⟩
  go_wp2_with fail
  refine (sunit_any _ _ _ _ _ _ hs3).mono ?_
  rintro e w4 ⟨he, hb4⟩
  unfold UnitRet at he
  rw [some_unitI, some_unitOk] at he
  subst he
  go_wp2_with fail
  refine (sname_any _ _).mono ?_
  rintro e w5 ⟨he, hb5⟩
  rw [name_f2] at he
  subst he
  go_wp2_with fail
  refine (svar_any _ _ (by decide)).mono ?_
  rintro e w6 ⟨he, hb6⟩
  rw [var_1] at he
  subst he
  have t2 := hb1.trans (hb2.mono hb1.size)
  have t3 := t2.trans (hb3.mono t2.size)
  have t4 := t3.trans (hb4.mono t3.size)
  have t5 := t4.trans (hb5.mono t4.size)
  have t6 := t5.trans (hb6.mono t5.size)
  have T6 : Hid (Below w.heap.size w w6) := t6
  clear hs1 hs3 hb1 hb2 hb3 hb4 hb5 hb6 t2 t3 t4 t5 t6
  go_wp2
  go_ret
  exact ⟨rfl, T6.out⟩

end Go.Proofs.Ytpngaeabkmbefaa
