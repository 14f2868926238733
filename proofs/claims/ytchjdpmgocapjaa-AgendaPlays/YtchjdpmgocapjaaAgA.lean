/- Numbers held against each other; cmp.Or of two. -/
import Derived.Test.YtchjdpmgocapjaaRows
import Derived.WalkKit
import Derived.WalkSpells
import Derived.WalkLawsBesides
import Derived.Deep.DeepCutAuto
import Derived.BigQuiet
namespace Go.Proofs.Ytchjdpmgocapjaa
open Go.RowKit

theorem hid {P : Prop} (h : P) : Hid P := h
theorem below_cell {w w' : World} (hb : Below w.heap.size w w') : ∀ p v, w.cell? p = some v → w'.cell? p = some v := fun p v h => by
  rw [hb.cell (World.block_lt_of_cell? w p h)]; exact h
/-- Which of two numbers is the lesser. -/
def cmpI (x y : Int) : Int := if x < y then -1 else if y < x then 1 else 0
theorem nan_any (x : Int) (w : World) : Calls Try.prog 63 #[.int .i64 x] w fun e w' => e = .returned (.bool false) ∧ w' = w := by
  go_enter Try.func63, Try.ntmps63
  have h : (x != x) = false := by simp
  go_wp2
  go_ret
  exact ⟨rfl, rfl⟩
theorem cmp_any (x y : Int) (w : World) : Calls Try.prog 48 #[.int .i64 x, .int .i64 y] w fun e w' => e = .returned (.int .i64 (cmpI x y)) ∧ w' = w := by
  go_enter Try.func48, Try.ntmps48
  go_wp2_with fail
  refine (nan_any x w).mono ?_
  rintro e w1 ⟨rfl, rfl⟩
  go_wp2_with fail
  refine (nan_any y w1).mono ?_
  rintro e w2 ⟨rfl, rfl⟩
  by_cases h1 : x < y
  · go_wp2_with fail
    go_ret
    simp [cmpI, h1]
  · by_cases h2 : y < x
    · go_wp2_with fail
      go_ret
      simp [cmpI, h1, h2]
    · go_wp2_with fail
      go_ret
      refine ⟨?_, rfl⟩
      unfold cmpI
      rw [if_neg (by omega), if_neg (by omega)]
      rfl
/-- The first that is not 0. -/
def orI (x y : Int) : Int := if x = 0 then y else x
theorem or_any (b : Nat) (x y : Int) (w : World) (h0 : w.cell? ⟨b, 0, none⟩ = some (.int .i64 x)) (h1 : w.cell? ⟨b, 1, none⟩ = some (.int .i64 y)) : Calls Try.prog 47 #[.slice (some ⟨b, 0, none⟩) 2 2] w fun e w' => e = .returned (.int .i64 (orI x y)) ∧ w' = w := by
  go_enter Try.func47, Try.ntmps47
  go_wp2_with fail
  go_loopw [8] (fun iv wr => wr = w ∧ ∃ i : Nat, i ≤ 2 ∧ iv = .int .i64 i ∧ (1 ≤ i → x = 0) ∧ (2 ≤ i → y = 0)) (fun iv _ => 2 - (intOf iv).toNat)
  case atStart => exact ⟨rfl, 0, by omega, rfl, by omega, by omega⟩
  case round =>
    obtain ⟨rfl, i, hi, rfl, hx, hy⟩ := hrel
    match i, hi, hx, hy with
    | 0, _, _, _ =>
      by_cases h : x = 0
      · have hx' : (x != 0) = false := by simpa using h
        have HX := hid h
        clear h
        go_wp2_with fail
        go_roundw
        case rel => exact ⟨trivial, 1, by omega, by go_num, fun _ => HX.out, by omega⟩
        case measure => simp [intOf]
      · have hx' : (x != 0) = true := by simpa using h
        go_wp2_with fail
        go_ret
        simp [orI, h]
    | 1, _, hx, _ =>
      have hx0 := hx (by omega)
      by_cases h : y = 0
      · have hx' : (y != 0) = false := by simpa using h
        have HX := hid h; have HX0 := hid hx0
        clear h hx hx0
        go_wp2_with fail
        go_roundw
        case rel => exact ⟨trivial, 2, by omega, by go_num, fun _ => HX0.out, fun _ => HX.out⟩
        case measure => simp [intOf]
      · have hx' : (y != 0) = true := by simpa using h
        have HX0 := hid hx0
        clear hx hx0
        go_wp2_with fail
        go_ret
        simp [orI, HX0.out]
    | 2, _, hx, hy =>
      have HX0 := hid (And.intro (hx (by omega)) (hy (by omega)))
      clear hx hy
      go_wp2_with fail
      go_ret
      simp [orI, HX0.out]
end Go.Proofs.Ytchjdpmgocapjaa
