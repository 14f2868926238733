/- What the smallest functions of layer 1 answer: letters, digits, lengths. -/
import Derived.Test.YtmhdapgiealmfaaRows
import Derived.Test.YtmhdapgiealmfaaPlain
import Derived.WalkKit
import Derived.WalkSpells
import Derived.WalkLawsBesides
namespace Go.Proofs.Ytmhdapgiealmfaa
open Go.RowKit

theorem small_any (r : Int) (w : World) : Calls Try.prog 85 #[.int .i32 r] w fun e w' => e = .returned (.bool (lowZ r)) ∧ w' = w := by
  by_cases h : 97 ≤ r
  · go_enter Try.func85, Try.ntmps85
    go_wp2
    go_ret
    exact ⟨by simp [lowZ, h], rfl⟩
  · go_enter Try.func85, Try.ntmps85
    go_wp2
    go_ret
    exact ⟨by simp [lowZ]; omega, rfl⟩

theorem sdigit_any (r : Int) (w : World) : Calls Try.prog 86 #[.int .i32 r] w fun e w' => e = .returned (.bool (digZ r)) ∧ w' = w := by
  by_cases h : 48 ≤ r
  · go_enter Try.func86, Try.ntmps86
    go_wp2
    go_ret
    exact ⟨by simp [digZ, h], rfl⟩
  · go_enter Try.func86, Try.ntmps86
    go_wp2
    go_ret
    exact ⟨by simp [digZ]; omega, rfl⟩

theorem great_any (r : Int) (w : World) : Calls Try.prog 84 #[.int .i32 r] w fun e w' => e = .returned (.bool (upZ r)) ∧ w' = w := by
  by_cases h : 65 ≤ r
  · go_enter Try.func84, Try.ntmps84
    go_wp2
    go_ret
    exact ⟨by simp [upZ, h], rfl⟩
  · go_enter Try.func84, Try.ntmps84
    go_wp2
    go_ret
    exact ⟨by simp [upZ]; omega, rfl⟩

theorem rlow_any (r : Int) (w : World) : Calls Try.prog 77 #[.int .u8 r] w fun e w' => e = .returned (.bool (lowZ r)) ∧ w' = w := by
  by_cases h : 97 ≤ r
  · go_enter Try.func77, Try.ntmps77
    go_wp2
    go_ret
    exact ⟨by simp [lowZ, h], rfl⟩
  · go_enter Try.func77, Try.ntmps77
    go_wp2
    go_ret
    exact ⟨by simp [lowZ]; omega, rfl⟩

theorem rdigit_any (r : Int) (w : World) : Calls Try.prog 75 #[.int .u8 r] w fun e w' => e = .returned (.bool (digZ r)) ∧ w' = w := by
  by_cases h : 48 ≤ r
  · go_enter Try.func75, Try.ntmps75
    go_wp2
    go_ret
    exact ⟨by simp [digZ, h], rfl⟩
  · go_enter Try.func75, Try.ntmps75
    go_wp2
    go_ret
    exact ⟨by simp [digZ]; omega, rfl⟩

theorem rup_any (r : Int) (w : World) : Calls Try.prog 76 #[.int .u8 r] w fun e w' => e = .returned (.bool (upZ r)) ∧ w' = w := by
  by_cases h : 65 ≤ r
  · go_enter Try.func76, Try.ntmps76
    go_wp2
    go_ret
    exact ⟨by simp [upZ, h], rfl⟩
  · go_enter Try.func76, Try.ntmps76
    go_wp2
    go_ret
    exact ⟨by simp [upZ]; omega, rfl⟩

theorem fits_hi {s : ByteArray} (h : 1 ≤ (s.size : Int)) : fitsB s = decide ((s.size : Int) ≤ 12) := by
  rw [Bool.eq_iff_iff]; simp [fitsB]; omega
theorem fits_any (s : ByteArray) (w : World) : Calls Try.prog 72 #[.string s] w fun e w' => e = .returned (.bool (fitsB s)) ∧ w' = w := by
  by_cases h : 1 ≤ (s.size : Int)
  · go_enter Try.func72, Try.ntmps72
    go_wp2
    go_ret
    exact ⟨by rw [fits_hi h]; rfl, rfl⟩
  · go_enter Try.func72, Try.ntmps72
    go_wp2
    go_ret
    exact ⟨by simp [fitsB]; omega, rfl⟩

end Go.Proofs.Ytmhdapgiealmfaa
