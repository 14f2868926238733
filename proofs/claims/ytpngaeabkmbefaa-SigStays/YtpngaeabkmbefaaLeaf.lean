/- What the smallest functions of layer 1 answer: letters, digits, lengths. -/
import Derived.Test.YtpngaeabkmbefaaRows
import Derived.Test.YtpngaeabkmbefaaPlain
import Derived.WalkKit
import Derived.WalkSpells
import Derived.WalkLawsBesides
namespace Go.Proofs.Ytpngaeabkmbefaa
open Go.RowKit

theorem small_any (r : Int) (w : World) : Calls Try.prog 29 #[.int .i32 r] w fun e w' => e = .returned (.bool (lowZ r)) ∧ w' = w := by
  by_cases h : 97 ≤ r
  · go_enter Try.func29, Try.ntmps29
    go_wp2
    go_ret
    exact ⟨by simp [lowZ, h], rfl⟩
  · go_enter Try.func29, Try.ntmps29
    go_wp2
    go_ret
    exact ⟨by simp [lowZ]; omega, rfl⟩

theorem sdigit_any (r : Int) (w : World) : Calls Try.prog 30 #[.int .i32 r] w fun e w' => e = .returned (.bool (digZ r)) ∧ w' = w := by
  by_cases h : 48 ≤ r
  · go_enter Try.func30, Try.ntmps30
    go_wp2
    go_ret
    exact ⟨by simp [digZ, h], rfl⟩
  · go_enter Try.func30, Try.ntmps30
    go_wp2
    go_ret
    exact ⟨by simp [digZ]; omega, rfl⟩

theorem great_any (r : Int) (w : World) : Calls Try.prog 41 #[.int .i32 r] w fun e w' => e = .returned (.bool (upZ r)) ∧ w' = w := by
  by_cases h : 65 ≤ r
  · go_enter Try.func41, Try.ntmps41
    go_wp2
    go_ret
    exact ⟨by simp [upZ, h], rfl⟩
  · go_enter Try.func41, Try.ntmps41
    go_wp2
    go_ret
    exact ⟨by simp [upZ]; omega, rfl⟩

theorem rlow_any (r : Int) (w : World) : Calls Try.prog 31 #[.int .u8 r] w fun e w' => e = .returned (.bool (lowZ r)) ∧ w' = w := by
  by_cases h : 97 ≤ r
  · go_enter Try.func31, Try.ntmps31
    go_wp2
    go_ret
    exact ⟨by simp [lowZ, h], rfl⟩
  · go_enter Try.func31, Try.ntmps31
    go_wp2
    go_ret
    exact ⟨by simp [lowZ]; omega, rfl⟩

theorem rdigit_any (r : Int) (w : World) : Calls Try.prog 32 #[.int .u8 r] w fun e w' => e = .returned (.bool (digZ r)) ∧ w' = w := by
  by_cases h : 48 ≤ r
  · go_enter Try.func32, Try.ntmps32
    go_wp2
    go_ret
    exact ⟨by simp [digZ, h], rfl⟩
  · go_enter Try.func32, Try.ntmps32
    go_wp2
    go_ret
    exact ⟨by simp [digZ]; omega, rfl⟩

theorem rup_any (r : Int) (w : World) : Calls Try.prog 35 #[.int .u8 r] w fun e w' => e = .returned (.bool (upZ r)) ∧ w' = w := by
  by_cases h : 65 ≤ r
  · go_enter Try.func35, Try.ntmps35
    go_wp2
    go_ret
    exact ⟨by simp [upZ, h], rfl⟩
  · go_enter Try.func35, Try.ntmps35
    go_wp2
    go_ret
    exact ⟨by simp [upZ]; omega, rfl⟩

theorem fits_hi {s : ByteArray} (h : 1 ≤ (s.size : Int)) : fitsB s = decide ((s.size : Int) ≤ 12) := by
  rw [Bool.eq_iff_iff]; simp [fitsB]; omega
theorem fits_any (s : ByteArray) (w : World) : Calls Try.prog 28 #[.string s] w fun e w' => e = .returned (.bool (fitsB s)) ∧ w' = w := by
  by_cases h : 1 ≤ (s.size : Int)
  · go_enter Try.func28, Try.ntmps28
    go_wp2
    go_ret
    exact ⟨by rw [fits_hi h]; rfl, rfl⟩
  · go_enter Try.func28, Try.ntmps28
    go_wp2
    go_ret
    exact ⟨by simp [fitsB]; omega, rfl⟩

end Go.Proofs.Ytpngaeabkmbefaa
