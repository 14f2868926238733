/- What head of the statements answers: true. -/
import Derived.Test.YtkcbhbkldcebiaaZShow
namespace Go.Proofs.Ytkcbhbkldcebiaa
open Go.RowKit Go.Deep

def bA : ByteArray := ⟨#[97]⟩
def bOne : ByteArray := ⟨#[111, 110, 101]⟩
def bF : ByteArray := ⟨#[102]⟩
def bPlus : ByteArray := ⟨#[112, 108, 117, 115]⟩
def bTimes : ByteArray := ⟨#[116, 105, 109, 101, 115]⟩
def bX : ByteArray := ⟨#[88]⟩
def someL : List Sym := [⟨bA, 1, 0, ⟨#[]⟩⟩, ⟨bOne, 1, 0, ⟨#[]⟩⟩, ⟨bF, 1, 2, ⟨#[]⟩⟩, ⟨bPlus, 2, 2, ⟨#[]⟩⟩, ⟨bTimes, 3, 2, bOne⟩]
/-- The text that head reads, and what it is read as. -/
def headS : ByteArray := ⟨#[112, 108, 117, 115, 40, 32, 88, 44, 97, 32, 41]⟩
def headF : Fo := .node 0 0 (bX, 0) .nil (.node 0 0 (⟨#[]⟩, 0) .nil .nil)
theorem head_full : fullR headS someL = .ok ((⟨#[]⟩, 3), headF) := by kernel_rfl
theorem head_show : showN someL (⟨#[]⟩, 3) headF = [112, 108, 117, 115, 40, 88, 44, 97, 41] := by kernel_rfl

set_option maxRecDepth 100000 in
theorem some_any (w : World) : Calls Try.prog 30 #[] w fun e w' => ∃ g, e = .returned (.slice (some ⟨g, 0, none⟩) 5 5) ∧ SigAt w' (some ⟨g, 0, none⟩) 5 someL ∧ Below w.heap.size w w' := by
  go_enter Try.func30, Try.ntmps30
  go_wp2
  go_ret
  have hb := World.alloc_heap_new w (.cells #[.string bA, .int .i64 1, .int .i64 0, .string ⟨#[]⟩, .string bOne, .int .i64 1, .int .i64 0, .string ⟨#[]⟩, .string bF, .int .i64 1, .int .i64 2, .string ⟨#[]⟩, .string bPlus, .int .i64 2, .int .i64 2, .string ⟨#[]⟩, .string bTimes, .int .i64 3, .int .i64 2, .string bOne] 90)
  refine ⟨w.heap.size, rfl, ⟨rfl, by decide, fun i hi => ⟨w.heap.size, 0, rfl, ?_⟩, ?_⟩, (Below.refl _ w).alloc (Nat.le_refl _) _⟩
  · have hi : i < 5 := hi
    match i, hi with
    | 0, _ => exact ⟨cell_box hb rfl, cell_box hb rfl, cell_box hb rfl, cell_box hb rfl⟩
    | 1, _ => exact ⟨cell_box hb rfl, cell_box hb rfl, cell_box hb rfl, cell_box hb rfl⟩
    | 2, _ => exact ⟨cell_box hb rfl, cell_box hb rfl, cell_box hb rfl, cell_box hb rfl⟩
    | 3, _ => exact ⟨cell_box hb rfl, cell_box hb rfl, cell_box hb rfl, cell_box hb rfl⟩
    | 4, _ => exact ⟨cell_box hb rfl, cell_box hb rfl, cell_box hb rfl, cell_box hb rfl⟩
  · intro x hx
    simp only [someL, List.mem_cons, List.not_mem_nil, or_false] at hx
    rcases hx with rfl | rfl | rfl | rfl | rfl <;> exact ⟨by decide, by decide⟩

set_option maxRecDepth 100000 in
set_option maxHeartbeats 8000000 in
theorem head_any (w : World) : Calls Try.prog 9 #[] w fun e w' => e = .returned (.bool true) ∧ Below w.heap.size w w' := by
  go_enter Try.func9, Try.ntmps9
  go_wp2_with fail
  refine (some_any w).mono ?_
  rintro e w1 ⟨g1, rfl, hs1, hb1⟩
  have hc := term_any (some ⟨g1, 0, none⟩) 5 5 someL headS w1 hs1
  rw [head_full] at hc
  have HC : Hid (Calls Try.prog 10 #[.slice (some ⟨g1, 0, none⟩) 5 5, .string headS] w1 fun e w' => ∃ ta tc, e = .returned (.tuple #[.agg #[.string ⟨#[]⟩, .int .i64 3, .slice ta 2 tc], .int .i64 0, .int .i64 0]) ∧ OwnTm false (fun q => w1.heap.size ≤ q) w' (⟨#[]⟩, 3) ta tc headF ∧ Below w1.heap.size w1 w') := hid (hc.mono (by rintro e w' ⟨⟨ta, tc, rfl, ho⟩, hb⟩; exact ⟨ta, tc, rfl, ho, hb⟩))
  have L1 := hid hb1
  clear hc hb1 hs1
  go_wp2_with fail
  refine HC.out.mono ?_
  rintro e w2 ⟨ta, tc, rfl, ho, hb2⟩
  have B2 := alloc_below0 w2 (.cells #[.string ⟨#[]⟩, .int .i64 3, .slice ta 2 tc] 28)
  have X2 : XBox (w2.alloc (.cells #[.string ⟨#[]⟩, .int .i64 3, .slice ta 2 tc] 28)) w2.heap.size (⟨#[]⟩, 3) (.slice ta 2 tc) := World.alloc_heap_new w2 _
  have L2 := hid ((L1.out.trans (hb2.mono L1.out.size)).trans (B2.mono (L1.out.trans (hb2.mono L1.out.size)).size))
  have T2 := hid (ho.below B2).tm
  have HSH : Hid (∀ W g, SigAt W (some ⟨g, 0, none⟩) 5 someL → Below (w2.alloc (.cells #[.string ⟨#[]⟩, .int .i64 3, .slice ta 2 tc] 28)).heap.size (w2.alloc (.cells #[.string ⟨#[]⟩, .int .i64 3, .slice ta 2 tc] 28)) W → Calls Try.prog 19 #[.slice (some ⟨g, 0, none⟩) 5 5, .agg #[.string ⟨#[]⟩, .int .i64 3, .slice ta 2 tc]] W fun e w' => e = .returned (.string ⟨#[112, 108, 117, 115, 40, 88, 44, 97, 41]⟩) ∧ Below W.heap.size W w') := hid fun W g hS hb => by
    have := show_any (some ⟨g, 0, none⟩) 5 5 someL (⟨#[]⟩, 3) headF ta tc W hS (T2.out.below hb) (by rw [head_show]; decide)
    rw [head_show] at this
    exact this
  have x0 := X2.c0; have x1 := X2.c1; have x2 := X2.c2
  clear ho hb2 B2 HC
  go_wp2_with fail
  generalize w2.alloc (.cells #[.string ⟨#[]⟩, .int .i64 3, .slice ta 2 tc] 28) = wc at L2 T2 HSH X2 x0 x1 x2 ⊢
  clear X2
  go_region_held3 (fun w' => w'.cell? ⟨w2.heap.size, 0, none⟩ = some (.string ⟨#[]⟩) ∧ w'.cell? ⟨w2.heap.size, 1, none⟩ = some (.int .i64 3) ∧ w'.cell? ⟨w2.heap.size, 2, none⟩ = some (.slice ta 2 tc)) ((first
      | (go_split_ands; refine ⟨?_, ?_, ?_⟩ <;> (with_reducible refine below_cell HB2.out _ _ ?_; assumption))
      | (go_split_ands; refine ⟨?_, ?_, ?_⟩ <;> (with_reducible refine below_cell HB1.out _ _ ?_; assumption))
      | go_keep | fail)) ((first
      | (go_at_call 30; refine Calls.mono (some_any _) ?_; rintro e w3 ⟨g3, rfl, hs3, hb3⟩; have HS1 := hid hs3; have HB1 : Hid (Below wc.heap.size wc w3) := ((Below.refl _ wc).drew).trans hb3; clear hs3 hb3)
      | (go_at_call 19; refine Calls.mono (HSH.out _ g3 HS1.out HB1.out) ?_; rintro e w4 ⟨rfl, hb4⟩; have HB2 : Hid (Below wc.heap.size wc w4) := HB1.out.trans (hb4.mono HB1.out.size); clear hb4)
      | fail))
  all_goals go_wp2_with fail
  all_goals go_ret
  all_goals exact ⟨rfl, L2.out.trans (HB2.out.mono L2.out.size)⟩
end Go.Proofs.Ytkcbhbkldcebiaa
