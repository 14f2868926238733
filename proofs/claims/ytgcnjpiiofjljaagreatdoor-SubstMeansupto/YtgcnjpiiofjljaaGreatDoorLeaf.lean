/- What the smallest functions of layer 1 answer: letters, digits, lengths. -/
import Derived.Test.YtgcnjpiiofjljaaGreatDoorRows
import Derived.Test.YtgcnjpiiofjljaaGreatDoorPlain
import Derived.WalkKit
import Derived.WalkSpells
import Derived.WalkLawsBesides
namespace Go.Proofs.YtgcnjpiiofjljaaGreatDoor
open Go.RowKit

theorem rlow_any (r : Int) (w : World) : Calls Tryz.prog 64 #[.int .u8 r] w fun e w' => e = .returned (.bool (lowZ r)) ∧ w' = w := by
  by_cases h : 97 ≤ r
  · go_enter Tryz.func64, Tryz.ntmps64
    go_wp2
    go_ret
    exact ⟨by simp [lowZ, h], rfl⟩
  · go_enter Tryz.func64, Tryz.ntmps64
    go_wp2
    go_ret
    exact ⟨by simp [lowZ]; omega, rfl⟩

theorem rdigit_any (r : Int) (w : World) : Calls Tryz.prog 62 #[.int .u8 r] w fun e w' => e = .returned (.bool (digZ r)) ∧ w' = w := by
  by_cases h : 48 ≤ r
  · go_enter Tryz.func62, Tryz.ntmps62
    go_wp2
    go_ret
    exact ⟨by simp [digZ, h], rfl⟩
  · go_enter Tryz.func62, Tryz.ntmps62
    go_wp2
    go_ret
    exact ⟨by simp [digZ]; omega, rfl⟩

theorem rup_any (r : Int) (w : World) : Calls Tryz.prog 63 #[.int .u8 r] w fun e w' => e = .returned (.bool (upZ r)) ∧ w' = w := by
  by_cases h : 65 ≤ r
  · go_enter Tryz.func63, Tryz.ntmps63
    go_wp2
    go_ret
    exact ⟨by simp [upZ, h], rfl⟩
  · go_enter Tryz.func63, Tryz.ntmps63
    go_wp2
    go_ret
    exact ⟨by simp [upZ]; omega, rfl⟩

theorem fits_hi {s : ByteArray} (h : 1 ≤ (s.size : Int)) : fitsB s = decide ((s.size : Int) ≤ 12) := by
  rw [Bool.eq_iff_iff]; simp [fitsB]; omega
end Go.Proofs.YtgcnjpiiofjljaaGreatDoor
