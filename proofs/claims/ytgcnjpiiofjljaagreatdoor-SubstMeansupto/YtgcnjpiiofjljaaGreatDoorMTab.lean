/- Maps from names to values of whatever make, as a call makes them, looks them up and fills them. -/
import Derived.Test.YtgcnjpiiofjljaaGreatDoorRows
import Derived.Maps.Own
import Derived.Maps.Views
import Derived.StringKeys
import Derived.WalkKit
namespace Go.Proofs.YtgcnjpiiofjljaaGreatDoor
open Go.RowKit Go.Maps

theorem law9 : Keyed Tryz.prog 9 := string_keyed Tryz.underlying9
/-- An element is held as it is. -/
def rH (v : Value) : Option (DataW Value × List MemPlace) := some (.held v, [])
abbrev MapAt (W : World) (b n : Nat) (D : DataW Value) : Prop := W.ownsMap Tryz.prog 9 rH b n D
def keyL (s : ByteArray) : Lit := .string s.data.toList
def lookD (D : DataW Value) (s : ByteArray) : Option Value := match D.atKey (keyL s) .nil with
  | .held v => some v
  | _ => none
theorem key_run (s : ByteArray) (hs : s.size ≤ maxLen) : keyOf Tryz.prog 9 (.string s) = some (keyL s) := Go.WideMaps.keyOf_string_mk Tryz.underlying9 hs
def zTm : Value := .agg #[.string ⟨#[]⟩, .int .i64 0, .slice none 0 0]
theorem zero27 (W : World) : (zeroValue 27).run Tryz.prog W = .ok zTm W := by kernel_rfl
theorem look_run {W : World} {b n : Nat} {D : DataW Value} (h : MapAt W b n D) (s : ByteArray) (hs : s.size ≤ maxLen) :
    (Instr.lookup 54 (.map (some b)) (.string s) true).run Tryz.prog W = .ok (.tuple #[(lookD D s).getD zTm, .bool (lookD D s).isSome]) W := by
  obtain ⟨es, clock, hb, F, _, rfl⟩ := h
  unfold lookD
  rcases fit_look true law9 Tryz.underlying54 (zero27 W) hb F (key_run s hs) with ⟨hrun, _, hat⟩ | ⟨e0, y, _, _, hrun, hRv, hat, _⟩
  · rw [hat]
    exact hrun
  · have hy : y.1 = .held e0.val := by
      unfold rH at hRv
      rw [← Option.some.inj hRv]
    rw [hat, hy]
    exact hrun
theorem nil_run (W : World) (s : ByteArray) (hs : s.size ≤ maxLen) :
    (Instr.lookup 54 (.map none) (.string s) true).run Tryz.prog W = .ok (.tuple #[zTm, .bool false]) W := by
  rcases law9.find W (key_run s hs) [] (by simp) with ⟨h1, _⟩ | ⟨j, e0, _, h2, _⟩
  · simp [Instr.lookup, run_underlying Tryz.underlying54, law9.check W _ (key_run s hs), h1, zero27 W, Result.andThen]
  · simp at h2
theorem make_run (W : World) (n : Int) : (Instr.makeMap 54 (some (.int .i64 n))).run Tryz.prog W = .ok (.map (some W.heap.size)) (W.alloc (.map #[] 0)) := by
  simp [Instr.makeMap, run_underlying Tryz.underlying54, asInt, asIntOf, Result.andThen]
theorem map_made (W : World) : MapAt (W.alloc (.map #[] 0)) W.heap.size 0 (.map []) := World.ownsMap_made _ _ _ _
theorem look_none (s : ByteArray) : lookD (.map []) s = none := rfl
theorem keyL_inj {s s' : ByteArray} (h : keyL s = keyL s') : s = s' := by
  have h1 : s.data.toList = s'.data.toList := by injection h
  have h2 : s.data = s'.data := Array.ext' h1
  cases s; cases s'; exact congrArg ByteArray.mk h2
theorem look_put {D : DataW Value} (hD : IsMap D) (s : ByteArray) (v : Value) (s' : ByteArray) : lookD (D.put (keyL s) (.held v)) s' = if s' = s then some v else lookD D s' := by
  unfold lookD
  by_cases h : s' = s
  · subst h
    rw [if_pos rfl, atKey_put_same hD (by constructor)]
  · rw [if_neg h, atKey_put_other (fun e => h (keyL_inj e))]
theorem MapAt.isMap {W : World} {b n : Nat} {D : DataW Value} (h : MapAt W b n D) : IsMap D := by
  obtain ⟨es, clock, _, _, _, rfl⟩ := h
  exact ⟨_, rfl⟩
/-- A store. -/
theorem put_run {W : World} {b n : Nat} {D : DataW Value} (h : MapAt W b n D) (hn : n < maxLen) (s : ByteArray) (hs : s.size ≤ maxLen) (v : Value) :
    ∃ W', (Instr.mapUpdate 54 (.map (some b)) (.string s) v).run Tryz.prog W = .ok () W' ∧ MapAt W' b (n + 1) (D.put (keyL s) (.held v)) ∧ W.grownBy W' (some b) :=
  h.update law9 Tryz.underlying54 hn (key_run s hs) rfl
end Go.Proofs.YtgcnjpiiofjljaaGreatDoor
