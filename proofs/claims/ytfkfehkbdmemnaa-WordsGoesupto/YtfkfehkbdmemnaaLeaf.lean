/- What the smallest functions of layer 1 answer: letters, digits, lengths. -/
import Derived.Test.YtfkfehkbdmemnaaRows
import Derived.Test.YtfkfehkbdmemnaaPlain
import Derived.WalkKit
import Derived.WalkSpells
import Derived.WalkLawsBesides
namespace Go.Proofs.Ytfkfehkbdmemnaa
open Go.RowKit

theorem small_any (r : Int) (w : World) : Calls Try.prog 40 #[.int .i32 r] w fun e w' => e = .returned (.bool (lowZ r)) ∧ w' = w := by
  by_cases h : 97 ≤ r
  · go_enter Try.func40, Try.ntmps40
    go_wp2
    go_ret
    exact ⟨by simp [lowZ, h], rfl⟩
  · go_enter Try.func40, Try.ntmps40
    go_wp2
    go_ret
    exact ⟨by simp [lowZ]; omega, rfl⟩

theorem sdigit_any (r : Int) (w : World) : Calls Try.prog 41 #[.int .i32 r] w fun e w' => e = .returned (.bool (digZ r)) ∧ w' = w := by
  by_cases h : 48 ≤ r
  · go_enter Try.func41, Try.ntmps41
    go_wp2
    go_ret
    exact ⟨by simp [digZ, h], rfl⟩
  · go_enter Try.func41, Try.ntmps41
    go_wp2
    go_ret
    exact ⟨by simp [digZ]; omega, rfl⟩

theorem great_any (r : Int) (w : World) : Calls Try.prog 44 #[.int .i32 r] w fun e w' => e = .returned (.bool (upZ r)) ∧ w' = w := by
  by_cases h : 65 ≤ r
  · go_enter Try.func44, Try.ntmps44
    go_wp2
    go_ret
    exact ⟨by simp [upZ, h], rfl⟩
  · go_enter Try.func44, Try.ntmps44
    go_wp2
    go_ret
    exact ⟨by simp [upZ]; omega, rfl⟩

theorem rlow_any (r : Int) (w : World) : Calls Try.prog 34 #[.int .u8 r] w fun e w' => e = .returned (.bool (lowZ r)) ∧ w' = w := by
  by_cases h : 97 ≤ r
  · go_enter Try.func34, Try.ntmps34
    go_wp2
    go_ret
    exact ⟨by simp [lowZ, h], rfl⟩
  · go_enter Try.func34, Try.ntmps34
    go_wp2
    go_ret
    exact ⟨by simp [lowZ]; omega, rfl⟩

theorem rdigit_any (r : Int) (w : World) : Calls Try.prog 35 #[.int .u8 r] w fun e w' => e = .returned (.bool (digZ r)) ∧ w' = w := by
  by_cases h : 48 ≤ r
  · go_enter Try.func35, Try.ntmps35
    go_wp2
    go_ret
    exact ⟨by simp [digZ, h], rfl⟩
  · go_enter Try.func35, Try.ntmps35
    go_wp2
    go_ret
    exact ⟨by simp [digZ]; omega, rfl⟩

theorem rup_any (r : Int) (w : World) : Calls Try.prog 36 #[.int .u8 r] w fun e w' => e = .returned (.bool (upZ r)) ∧ w' = w := by
  by_cases h : 65 ≤ r
  · go_enter Try.func36, Try.ntmps36
    go_wp2
    go_ret
    exact ⟨by simp [upZ, h], rfl⟩
  · go_enter Try.func36, Try.ntmps36
    go_wp2
    go_ret
    exact ⟨by simp [upZ]; omega, rfl⟩

theorem fits_hi {s : ByteArray} (h : 1 ≤ (s.size : Int)) : fitsB s = decide ((s.size : Int) ≤ 12) := by
  rw [Bool.eq_iff_iff]; simp [fitsB]; omega
theorem fits_any (s : ByteArray) (w : World) : Calls Try.prog 39 #[.string s] w fun e w' => e = .returned (.bool (fitsB s)) ∧ w' = w := by
  by_cases h : 1 ≤ (s.size : Int)
  · go_enter Try.func39, Try.ntmps39
    go_wp2
    go_ret
    exact ⟨by rw [fits_hi h]; rfl, rfl⟩
  · go_enter Try.func39, Try.ntmps39
    go_wp2
    go_ret
    exact ⟨by simp [fitsB]; omega, rfl⟩

end Go.Proofs.Ytfkfehkbdmemnaa
