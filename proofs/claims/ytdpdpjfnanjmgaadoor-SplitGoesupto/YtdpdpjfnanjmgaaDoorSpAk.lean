/- lives. -/
import Derived.Test.YtdpdpjfnanjmgaaDoorSpAj
namespace Go.Proofs.YtdpdpjfnanjmgaaDoor
open Go.RowKit Go.Shelf

/-- A row of numbers that a statement lays. -/
theorem ints_new (W : World) (l : List Nat) (hl : l.length ≤ 1000000) : IntsAt (W.alloc (.cells (l.map fun x : Nat => Value.int .i64 (x : Int)).toArray 3)) (some ⟨W.heap.size, 0, none⟩) (up l) :=
  ⟨by rw [up_len]; unfold maxLen; omega, fun i hi => by
    rw [up_len] at hi
    refine ⟨_, _, rfl, ?_⟩
    rw [up_at hi, Nat.zero_add]
    refine cell_box (World.alloc_heap_new W _) ?_
    rw [List.getElem?_toArray, List.getElem?_map, List.getElem?_eq_getElem hi, List.getD_eq_getElem?_getD, List.getElem?_eq_getElem hi]
    rfl⟩
theorem lives_ways : (waysF [1, 1] [1, 1] false).length = 2 := by decide
set_option maxRecDepth 100000 in
set_option maxHeartbeats 4000000 in
theorem lives_any (w : World) (hTab : Tab w) : Calls Tryd.prog 8 #[] w fun e w' => e = .returned (.bool true) ∧ Below w.heap.size w w' := by
  obtain ⟨W1, hW1⟩ : ∃ W1, w.alloc (.cells #[.int .i64 1, .int .i64 1] 3) = W1 := ⟨_, rfl⟩
  obtain ⟨W2, hW2⟩ : ∃ W2, W1.alloc (.cells #[.int .i64 1, .int .i64 1] 3) = W2 := ⟨_, rfl⟩
  have hb1 : Below w.heap.size w W1 := by rw [← hW1]; exact alloc_below0 _ _
  have hb2 : Below W1.heap.size W1 W2 := by rw [← hW2]; exact alloc_below0 _ _
  have h1 : IntsAt W2 (some ⟨w.heap.size, 0, none⟩) (up [1, 1]) := by
    have h := ints_new w [1, 1] (by decide)
    exact IntsAt.below (w := W1) (by rw [← hW1]; exact h) hb2
  have h2 : IntsAt W2 (some ⟨W1.heap.size, 0, none⟩) (up [1, 1]) := by
    have h := ints_new W1 [1, 1] (by decide)
    rw [← hW2]; exact h
  have hs1 : W1.heap.size = w.heap.size + 1 := by rw [← hW1, World.size_alloc]
  have hb := hb1.trans (hb2.mono hb1.size)
  have H := count_any (some ⟨w.heap.size, 0, none⟩) (some ⟨W1.heap.size, 0, none⟩) 2 2 [1, 1] [1, 1] false 9 W2 h1 h2 ⟨by decide, by decide, by decide, by decide⟩ (by decide) (hTab.below hb)
  rw [lives_ways] at H
  have HH := hid H; have HB := hid hb
  rw [hs1] at HH
  clear hb1 hb2 h1 h2 hb H hTab
  go_enter Tryd.func8, Tryd.ntmps8
  go_wp2_with fail
  refine HH.out.mono ?_
  rintro e w3 ⟨rfl, hb3⟩
  have HB3 := hid (HB.out.trans (hb3.mono HB.out.size))
  clear hb3
  rw [show ((min 2 9 : Nat) : Int) = 2 from rfl]
  go_wp2_with fail
  go_ret
  exact ⟨rfl, HB3.out⟩
end Go.Proofs.YtdpdpjfnanjmgaaDoor
