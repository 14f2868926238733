/- TrailingZeros32, over its table. -/
import Derived.Test.YteakakonjfcpmaaDoorPkPl
namespace Go.Proofs.YteakakonjfcpmaaDoor
open Go.RowKit

def tab32 : List Int := [0, 1, 28, 2, 29, 14, 24, 3, 30, 22, 20, 15, 25, 17, 4, 8, 31, 27, 13, 23, 21, 19, 16, 7, 26, 12, 18, 6, 11, 5, 10, 9]
/-- The library's table lies in memory. -/
def Tab (w : World) : Prop := ∀ i, i < 32 → w.cell? ⟨0, i, none⟩ = some (.int .u8 (tab32.getD i 0))
theorem Tab.below {w w' : World} (h : Tab w) (hb : Below w.heap.size w w') : Tab w' := fun i hi => below_cell hb _ _ (h i hi)
def idx32 (p : Nat) : Nat := 2 ^ p * 125613361 % 4294967296 / 134217728
theorem idx_lt : ∀ p, p < 32 → idx32 p < 32 := by decide
theorem idx_tab : ∀ p, p < 32 → tab32.getD (idx32 p) 0 = (p : Int) := by decide
theorem tz1 (M : Nat) (hM : M < 4294967296) (hpos : 0 < M) : IntKind.u32.wrap (-(M : Int)) = ((4294967296 - M : Nat) : Int) := by rw [IntKind.wrap_u32']; omega
theorem tz2 {M p : Nat} (h0 : M % 2 ^ p = 0) (h1 : M.testBit p = true) (hM : M < 4294967296) (hpos : 0 < M) : bits .and .u32 (M : Int) ((4294967296 - M : Nat) : Int) = ((2 ^ p : Nat) : Int) := by
  have h2 : M &&& (4294967296 - M) = 2 ^ p := low_bit (n := 32) h0 h1 hM
  rw [u32_and_nat _ _ hM (by omega), h2]
theorem tz3 (x : Nat) : IntKind.u32.wrap ((x : Int) * 125613361) = ((x * 125613361 % 4294967296 : Nat) : Int) := by rw [IntKind.wrap_u32', Int.natCast_emod, Int.natCast_mul]; rfl
theorem tz4 (p : Nat) : ((2 ^ p * 125613361 % 4294967296 : Nat) : Int) / 134217728 = (idx32 p : Int) := by unfold idx32; rw [Int.natCast_ediv]; rfl
set_option maxRecDepth 100000 in
set_option maxHeartbeats 2000000 in
theorem tz_any (M p : Nat) (h0 : M % 2 ^ p = 0) (h1 : M.testBit p = true) (hM : M < 4294967296) (w : World) (hT : Tab w) :
    Calls Tryd.prog 43 #[.int .u32 M] w fun e w' => e = .returned (.int .i64 p) ∧ w' = w := by
  have hp : p < 32 := Nat.lt_of_not_le fun hle => by
    have h9 : 2 ^ 32 ≤ 2 ^ p := Nat.pow_le_pow_right (by omega) hle
    have := bit_le h1
    omega
  have hle := bit_le h1
  have hpp := Nat.two_pow_pos p
  have hpos : 0 < M := by omega
  have hn := tz1 M hM hpos
  have ha := tz2 h0 h1 hM hpos
  have hm := tz3 (2 ^ p)
  have hs := tz4 p
  have hi := idx_lt p hp
  have hc := hT _ hi
  rw [idx_tab p hp] at hc
  have hne : ((M : Int) == 0) = false := by simp; omega
  have hcv : IntKind.i64.wrap (p : Int) = (p : Int) := IntWalk.i64_in _ (by constructor <;> omega)
  generalize idx32 p = q at hs hi hc
  generalize ((2 ^ p * 125613361 % 4294967296 : Nat) : Int) = y at hm hs
  generalize ((2 ^ p : Nat) : Int) = x at ha hm
  generalize ((4294967296 - M : Nat) : Int) = z at hn ha
  have hqz : y / 134217728 < 32 := by omega
  have hq0 : 0 ≤ y / 134217728 := by omega
  rw [show q = (y / 134217728).toNat by omega] at hc
  clear hs hi
  clear h0 h1 hle hpp hT
  go_enter Tryd.func43, Tryd.ntmps43
  go_wp2_with fail
  go_ret
  exact ⟨rfl, rfl⟩
end Go.Proofs.YteakakonjfcpmaaDoor
