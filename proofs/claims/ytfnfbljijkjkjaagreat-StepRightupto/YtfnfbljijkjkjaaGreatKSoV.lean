import Derived.Test.YtfnfbljijkjkjaaGreatKSoU
/- The signature of the examples; Size of the program. -/
namespace Go.Proofs.YtfnfbljijkjkjaaGreat
open Go.RowKit Go.Deep

def bA : ByteArray := ⟨#[97]⟩
def bOne : ByteArray := ⟨#[111, 110, 101]⟩
def bF : ByteArray := ⟨#[102]⟩
def bPlus : ByteArray := ⟨#[112, 108, 117, 115]⟩
def bTimes : ByteArray := ⟨#[116, 105, 109, 101, 115]⟩
def bX : ByteArray := ⟨#[88]⟩
def someL : List Sym := [⟨bA, 1, 0, ⟨#[]⟩⟩, ⟨bOne, 1, 0, ⟨#[]⟩⟩, ⟨bF, 1, 2, ⟨#[]⟩⟩, ⟨bPlus, 2, 2, ⟨#[]⟩⟩, ⟨bTimes, 3, 2, bOne⟩]

set_option maxRecDepth 100000 in
theorem some_any (w : World) : Calls Tryz.prog 17 #[] w fun e w' => ∃ g, e = .returned (.slice (some ⟨g, 0, none⟩) 5 5) ∧ SigAt w' (some ⟨g, 0, none⟩) 5 someL ∧ Below w.heap.size w w' := by
  go_enter Tryz.func17, Tryz.ntmps17
  go_wp2
  go_ret
  refine ⟨w.heap.size, rfl, ⟨rfl, by decide, fun i hi => ⟨w.heap.size, 0, rfl, ?_⟩, ?_⟩, (Below.refl _ w).alloc (Nat.le_refl _) _⟩
  · have hb := Box.new w 47 #[.string bA, .int .i64 1, .int .i64 0, .string ⟨#[]⟩, .string bOne, .int .i64 1, .int .i64 0, .string ⟨#[]⟩, .string bF, .int .i64 1, .int .i64 2, .string ⟨#[]⟩, .string bPlus, .int .i64 2, .int .i64 2, .string ⟨#[]⟩, .string bTimes, .int .i64 3, .int .i64 2, .string bOne]
    have hi : i < 5 := hi
    match i, hi with
    | 0, _ => exact ⟨hb.c 0, hb.c 1, hb.c 2, hb.c 3⟩
    | 1, _ => exact ⟨hb.c 4, hb.c 5, hb.c 6, hb.c 7⟩
    | 2, _ => exact ⟨hb.c 8, hb.c 9, hb.c 10, hb.c 11⟩
    | 3, _ => exact ⟨hb.c 12, hb.c 13, hb.c 14, hb.c 15⟩
    | 4, _ => exact ⟨hb.c 16, hb.c 17, hb.c 18, hb.c 19⟩
  · intro x hx
    simp only [someL, List.mem_cons, List.not_mem_nil, or_false] at hx
    rcases hx with rfl | rfl | rfl | rfl | rfl <;> exact ⟨by decide, by decide⟩

end Go.Proofs.YtfnfbljijkjkjaaGreat
