/- The map of what is in, by tickets. -/
import Derived.Test.YtchjdpmgocapjaaAgM
import Derived.Maps.Own
import Derived.Maps.Views
import Derived.Maps.OwnSet
namespace Go.Proofs.Ytchjdpmgocapjaa
open Go.RowKit Go.Maps

theorem law3 : Keyed Try.prog 3 := int_keyed Try.underlying3
/-- An element is held as it is. -/
def rH (v : Value) : Option (DataW Value × List MemPlace) := some (.held v, [])
abbrev MapAt (W : World) (b n : Nat) (D : DataW Value) : Prop := W.ownsMap Try.prog 3 rH b n D
def keyL (t : Int) : Lit := .int .i64 t
def Is64 (t : Int) : Prop := -9223372036854775808 ≤ t ∧ t ≤ 9223372036854775807
def lookD (D : DataW Value) (t : Int) : Option Value := match D.atKey (keyL t) .nil with
  | .held v => some v
  | _ => none
theorem key_run {t : Int} (ht : Is64 t) : keyOf Try.prog 3 (.int .i64 t) = some (keyL t) := keyOf_int_mk Try.underlying3 (by
  simp only [Lit.wf, Bool.and_eq_true, decide_eq_true_eq]
  exact ht)
theorem zero86 (W : World) : (zeroValue 86).run Try.prog W = .ok (.pointer none) W := by kernel_rfl
theorem look_run {W : World} {b n : Nat} {D : DataW Value} (h : MapAt W b n D) {t : Int} (ht : Is64 t) :
    (Instr.lookup 78 (.map (some b)) (.int .i64 t) true).run Try.prog W = .ok (.tuple #[(lookD D t).getD (.pointer none), .bool (lookD D t).isSome]) W := by
  obtain ⟨es, clock, hb, F, _, rfl⟩ := h
  unfold lookD
  rcases fit_look true law3 Try.underlying78 (zero86 W) hb F (key_run ht) with ⟨hrun, _, hat⟩ | ⟨e0, y, _, _, hrun, hRv, hat, _⟩
  · rw [hat]
    exact hrun
  · have hy : y.1 = .held e0.val := by
      unfold rH at hRv
      rw [← Option.some.inj hRv]
    rw [hat, hy]
    exact hrun
theorem map_made (W : World) : MapAt (W.alloc (.map #[] 0)) W.heap.size 0 (.map []) := World.ownsMap_made _ _ _ _
theorem look_none (t : Int) : lookD (.map []) t = none := rfl
theorem keyL_inj {t t' : Int} (h : keyL t = keyL t') : t = t' := by injection h
theorem look_put {D : DataW Value} (hD : IsMap D) (t : Int) (v : Value) (t' : Int) : lookD (D.put (keyL t) (.held v)) t' = if t' = t then some v else lookD D t' := by
  unfold lookD
  by_cases h : t' = t
  · subst h
    rw [if_pos rfl, atKey_put_same hD (by constructor)]
  · rw [if_neg h, atKey_put_other (fun e => h (keyL_inj e))]
theorem look_del {D : DataW Value} (t : Int) (t' : Int) : lookD (D.del (keyL t)) t' = if t' = t then none else lookD D t' := by
  unfold lookD
  by_cases h : t' = t
  · subst h
    rw [if_pos rfl, atKey_del_same]
  · rw [if_neg h, atKey_del_other (fun e => h (keyL_inj e))]
theorem put_run {W : World} {b n : Nat} {D : DataW Value} (h : MapAt W b n D) (hn : n < maxLen) {t : Int} (ht : Is64 t) (v : Value) :
    ∃ W', (Instr.mapUpdate 78 (.map (some b)) (.int .i64 t) v).run Try.prog W = .ok () W' ∧ MapAt W' b (n + 1) (D.put (keyL t) (.held v)) ∧ Fr (fun q => q = b) W W' := by
  obtain ⟨W', h1, h2, h3⟩ := h.update law3 Try.underlying78 hn (key_run ht) (val := v) rfl
  exact ⟨W', h1, h2, (fr_grown h3).mono (fun q hq => (Option.some.inj hq).symm)⟩
theorem del_run {W : World} {b n : Nat} {D : DataW Value} (h : MapAt W b n D) {t : Int} (ht : Is64 t) (ty : TypeId) :
    ∃ W', (Builtin.delete_ #[78, 3] ty #[.map (some b), .int .i64 t]).run Try.prog W = .ok (.tuple #[]) W' ∧ MapAt W' b n (D.del (keyL t)) ∧ Fr (fun q => q = b) W W' := by
  obtain ⟨W', h1, h2, h3⟩ := h.drop law3 Try.underlying78 (key_run ht) ty
  exact ⟨W', h1, h2, (fr_grown h3.grown).mono (fun q hq => (Option.some.inj hq).symm)⟩
theorem MapAt.fr {W W' : World} {b n : Nat} {D : DataW Value} {P : Nat → Prop} (h : MapAt W b n D) (hf : Fr P W W') (hb : ¬ P b) : MapAt W' b n D := by
  have hlt := World.ownsMap.lt h
  obtain ⟨es, clock, h1, h2⟩ := h
  exact ⟨es, clock, (hf.same b hlt hb).trans h1, h2⟩
theorem MapAt.is {W : World} {b n : Nat} {D : DataW Value} (h : MapAt W b n D) : IsMap D := by
  obtain ⟨es, clock, _, _, _, rfl⟩ := h
  exact ⟨_, rfl⟩
end Go.Proofs.Ytchjdpmgocapjaa
