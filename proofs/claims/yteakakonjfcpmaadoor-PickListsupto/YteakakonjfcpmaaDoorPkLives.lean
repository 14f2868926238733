/- lives. -/
import Derived.Test.YteakakonjfcpmaaDoorPkList
namespace Go.Proofs.YteakakonjfcpmaaDoor
open Go.RowKit Go.Shelf

theorem lit_ints {W : World} {b : Nat} {ns : List Int} (h : W.heap[b]? = some (.cells (cAll ns).toArray 3 (0, 0))) (hs : ns.length ≤ maxLen) : IntsAt W (some ⟨b, 0, none⟩) ns :=
  ⟨hs, fun i hi => ⟨b, 0, rfl, cell_box h (by rw [Nat.zero_add]; unfold cAll; simp [hi])⟩⟩
theorem two_rows {W : World} {b x y : Nat} {r s : List Int} (h : W.heap[b]? = some (.cells #[.slice (some ⟨x, 0, none⟩) r.length r.length, .slice (some ⟨y, 0, none⟩) s.length s.length] 29 (0, 0))) (hr : IntsAt W (some ⟨x, 0, none⟩) r) (hs : IntsAt W (some ⟨y, 0, none⟩) s) : RowsAt W (some ⟨b, 0, none⟩) [r, s] := by
  refine ⟨by unfold maxLen; simp, fun i hi => ?_⟩
  match i, hi with
  | 0, _ => exact ⟨b, 0, _, _, rfl, cell_box h rfl, hr⟩
  | 1, _ => exact ⟨b, 0, _, _, rfl, cell_box h rfl, hs⟩
theorem lives_fit : fitL [[1], [2]] [1] = [1, 2, 3] := by decide +kernel
theorem lives_E : listE [[1], [2]] [1] 9 = 0 := by decide +kernel
theorem lives_start (w : World) (W : World) (hW : W = (((w.alloc (.cells #[.int .i64 1] 3)).alloc (.cells #[.int .i64 2] 3)).alloc (.cells #[.slice (some ⟨w.heap.size, 0, none⟩) 1 1, .slice (some ⟨w.heap.size + 1, 0, none⟩) 1 1] 29)).alloc (.cells #[.int .i64 1] 3)) :
    Below w.heap.size w W ∧ RowsAt W (some ⟨w.heap.size + 1 + 1, 0, none⟩) [[1], [2]] ∧ IntsAt W (some ⟨w.heap.size + 1 + 1 + 1, 0, none⟩) [1] := by
  have b1 := alloc_below0 w (.cells #[.int .i64 1] 3)
  have n1 := World.alloc_heap_new w (.cells #[.int .i64 1] 3)
  have s1 := World.size_alloc w (.cells #[.int .i64 1] 3)
  generalize w.alloc (.cells #[.int .i64 1] 3) = A1 at b1 n1 s1 hW
  have b2 := alloc_below0 A1 (.cells #[.int .i64 2] 3)
  have n2 := World.alloc_heap_new A1 (.cells #[.int .i64 2] 3)
  have s2 := World.size_alloc A1 (.cells #[.int .i64 2] 3)
  generalize A1.alloc (.cells #[.int .i64 2] 3) = A2 at b2 n2 s2 hW
  have b3 := alloc_below0 A2 (.cells #[.slice (some ⟨w.heap.size, 0, none⟩) 1 1, .slice (some ⟨w.heap.size + 1, 0, none⟩) 1 1] 29)
  have n3 := World.alloc_heap_new A2 (.cells #[.slice (some ⟨w.heap.size, 0, none⟩) 1 1, .slice (some ⟨w.heap.size + 1, 0, none⟩) 1 1] 29)
  have s3 := World.size_alloc A2 (.cells #[.slice (some ⟨w.heap.size, 0, none⟩) 1 1, .slice (some ⟨w.heap.size + 1, 0, none⟩) 1 1] 29)
  generalize A2.alloc (.cells #[.slice (some ⟨w.heap.size, 0, none⟩) 1 1, .slice (some ⟨w.heap.size + 1, 0, none⟩) 1 1] 29) = A3 at b3 n3 s3 hW
  have b4 := alloc_below0 A3 (.cells #[.int .i64 1] 3)
  have n4 := World.alloc_heap_new A3 (.cells #[.int .i64 1] 3)
  rw [← hW] at b4 n4
  rw [s3, s2, s1] at n4
  rw [s2, s1] at n3
  rw [s1] at n2
  refine ⟨b1.trans ((b2.mono (by omega)).trans ((b3.mono (by omega)).trans (b4.mono (by omega)))), two_rows ((b4.block _ (by omega)).trans n3) (lit_ints (ns := [1]) ((b4.block _ (by omega)).trans ((b3.block _ (by omega)).trans ((b2.block _ (by omega)).trans n1))) (by decide)) (lit_ints (ns := [2]) ((b4.block _ (by omega)).trans ((b3.block _ (by omega)).trans n2)) (by decide)), lit_ints (ns := [1]) n4 (by decide)⟩
set_option maxRecDepth 100000 in
set_option maxHeartbeats 2000000 in
theorem lives_any (w : World) (hT : Tab w) : Calls Tryd.prog 8 #[] w fun e w' => e = .returned (.bool true) ∧ Below w.heap.size w w' := by
  obtain ⟨hb, hr, hi⟩ := lives_start w _ rfl
  have h1 := list_any _ 2 [[1], [2]] _ 1 [1] 9 _ hr hi (hT.below hb)
  have HL := hid h1; have HB := hid hb
  clear h1 hr hi hb hT
  go_enter Tryd.func8, Tryd.ntmps8
  go_wp2_with fail
  refine HL.out.mono ?_
  rintro e w1 ⟨hb1, (⟨h0, _⟩ | ⟨_, v, rfl, hz⟩)⟩
  · exact absurd lives_E h0
  rw [lives_fit] at hz
  have HB1 := hid (HB.out.trans (hb1.mono HB.out.size))
  obtain ⟨p, c, rfl⟩ := hz.form
  obtain ⟨g, rfl, _, hc⟩ := hz.cell (i := 2) (by decide)
  have hc' : w1.cell? ⟨g, 2, none⟩ = some (.int .u32 3) := by rw [Nat.zero_add] at hc; exact hc
  clear hz hb1 HL hc
  show _
  go_wp2_with fail
  go_ret
  exact ⟨rfl, HB1.out⟩
end Go.Proofs.YteakakonjfcpmaaDoor
