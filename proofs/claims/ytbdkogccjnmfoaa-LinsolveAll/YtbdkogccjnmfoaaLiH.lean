/- told: an attempt's vector. -/
import Derived.Test.YtbdkogccjnmfoaaLiF
import Derived.Test.YtbdkogccjnmfoaaLiG
import Derived.Deep.RegionWith
namespace Go.Proofs.Ytbdkogccjnmfoaa
open Go.RowKit Go.Shelf

/-- A vector's numbers. -/
def toI (l : List Nat) : List Int := l.map (fun n : Nat => (n : Int))
theorem toI_len (l : List Nat) : (toI l).length = l.length := List.length_map _
theorem toI_get (x : Nat → Nat) (n i : Nat) (hi : i < n) : (toI ((List.range n).map x))[i]? = some ((x i : Nat) : Int) := by
  unfold toI
  simp [hi]
theorem slice_arr (b o n : Nat) (w : World) (hn : n ≤ 5) : (Instr.sliceAt 64 (.pointer (some ⟨b, o, none⟩)) none (some (.int .i64 n)) none).run Try.prog w = .ok (.slice (some ⟨b, o, none⟩) n 5) w := by
  have e5 : Try.prog.arrayLen 64 = 5 := by kernel_rfl
  have e3 : Try.prog.elem 64 = 3 := by kernel_rfl
  have h := run_sliceAt_array_h (P := Try.prog) w 64 ⟨b, o, none⟩ (by rw [e5, e3]; exact Try.underlying64) .i64 n (by omega) (by rw [e5]; omega)
  rw [h, e3, e5]
  have hs : (sizeOf 3).run Try.prog w = .ok 1 w := Try.sizeOf3 w
  rw [hs]
  simp [slicedAt, Addr.add]
set_option maxRecDepth 100000 in
set_option maxHeartbeats 4000000 in
theorem told_any (p : Pb) (x y : Nat → Nat) (f g m k : Nat) (d : Int) (pa pb : Option Addr) (ca cb na nb : Nat) (w : World) (hna : na = p.n) (hnb : nb = p.q) (h5 : p.n ≤ 5) (h6 : p.q ≤ 5) (hpos : 0 < p.n + p.q) :
    Calls Try.prog 53 #[attV ⟨x, y, f, g, m, k, d⟩, .agg #[.slice pa na ca, .slice pb nb cb]] w fun e w' => ∃ q c, e = .returned (.slice q (toI (told p ⟨x, y, f, g, m, k, d⟩)).length c) ∧ CRow w' w.heap.size q c (toI (told p ⟨x, y, f, g, m, k, d⟩)) ∧ Below w.heap.size w w' := by
  obtain ⟨W0, hW0⟩ : ∃ W, W = (w.alloc (Obj.cells #[.int .i64 (x 0), .int .i64 (x 1), .int .i64 (x 2), .int .i64 (x 3), .int .i64 (x 4), .int .i64 (y 0), .int .i64 (y 1), .int .i64 (y 2), .int .i64 (y 3), .int .i64 (y 4), .int .i64 (f), .int .i64 (g), .int .u64 (m), .int .u64 (k), .int .i64 (d)] 68)).alloc (.cells #[.slice pa na ca, .slice pb nb cb] 48) := ⟨_, rfl⟩
  have b1 := alloc_below0 w (Obj.cells #[.int .i64 (x 0), .int .i64 (x 1), .int .i64 (x 2), .int .i64 (x 3), .int .i64 (x 4), .int .i64 (y 0), .int .i64 (y 1), .int .i64 (y 2), .int .i64 (y 3), .int .i64 (y 4), .int .i64 (f), .int .i64 (g), .int .u64 (m), .int .u64 (k), .int .i64 (d)] 68)
  have b2 := alloc_below0 (w.alloc (Obj.cells #[.int .i64 (x 0), .int .i64 (x 1), .int .i64 (x 2), .int .i64 (x 3), .int .i64 (x 4), .int .i64 (y 0), .int .i64 (y 1), .int .i64 (y 2), .int .i64 (y 3), .int .i64 (y 4), .int .i64 (f), .int .i64 (g), .int .u64 (m), .int .u64 (k), .int .i64 (d)] 68)) (.cells #[.slice pa na ca, .slice pb nb cb] 48)
  rw [World.size_alloc] at b2
  have bW0 : Below w.heap.size w W0 := by rw [hW0]; exact b1.trans (b2.mono (by omega))
  have sW0 : W0.heap.size = w.heap.size + 2 := by rw [hW0, World.size_alloc, World.size_alloc]
  have g1 : W0.heap[w.heap.size]? = some (.cells (attC ⟨x, y, f, g, m, k, d⟩).toArray 68 (0, 0)) := by rw [hW0]; exact (b2.block _ (by omega)).trans (World.alloc_heap_new w _)
  have g2 : W0.heap[w.heap.size + 1]? = some (.cells #[.slice pa na ca, .slice pb nb cb] 48 (0, 0)) := by
    have := World.alloc_heap_new (w.alloc (Obj.cells #[.int .i64 (x 0), .int .i64 (x 1), .int .i64 (x 2), .int .i64 (x 3), .int .i64 (x 4), .int .i64 (y 0), .int .i64 (y 1), .int .i64 (y 2), .int .i64 (y 3), .int .i64 (y 4), .int .i64 (f), .int .i64 (g), .int .u64 (m), .int .u64 (k), .int .i64 (d)] 68)) (.cells #[.slice pa na ca, .slice pb nb cb] 48)
    rw [World.size_alloc] at this
    rw [hW0]; exact this
  have hmax : maxLen = 9223372036854775807 := rfl
  have HCC : Hid (∀ W1, W1 = (W0.alloc (.cells #[.slice (some ⟨w.heap.size, 0, none⟩) na 5, .slice (some ⟨w.heap.size, 5, none⟩) nb 5] 27)).drew → Calls Try.prog 60 #[.slice (some ⟨W0.heap.size, 0, none⟩) 2 2] W1 fun e w' => ∃ q c, e = .returned (.slice q (toI (told p ⟨x, y, f, g, m, k, d⟩)).length c) ∧ CRow w' w.heap.size q c (toI (told p ⟨x, y, f, g, m, k, d⟩)) ∧ Below w.heap.size w w') := hid (by
    intro W1 hW1
    have bb : Below W0.heap.size W0 W1 := by rw [hW1]; exact (Below.refl _ W0).drew.alloc (Nat.le_refl _) _
    have g3 : W1.heap[W0.heap.size]? = some (.cells #[.slice (some ⟨w.heap.size, 0, none⟩) na 5, .slice (some ⟨w.heap.size, 5, none⟩) nb 5] 27 (0, 0)) := by rw [hW1]; exact World.alloc_heap_new W0.drew _
    have g4 := below_blk bb g1
    have r1 : IntsAt W1 (some ⟨w.heap.size, 0, none⟩) (toI ((List.range p.n).map x)) := ⟨by rw [toI_len]; simp; omega, fun i hi => ⟨_, _, rfl, by
      have hi' : i < p.n := by simpa [toI] using hi
      have h1 := toI_get x p.n i hi'
      rw [List.getElem?_eq_getElem hi] at h1
      rw [Option.some.inj h1, Nat.zero_add]
      exact cells_box15 g4 (getX ⟨x, y, f, g, m, k, d⟩ i (by omega))⟩⟩
    have r2 : IntsAt W1 (some ⟨w.heap.size, 5, none⟩) (toI ((List.range p.q).map y)) := ⟨by rw [toI_len]; simp; omega, fun i hi => ⟨_, _, rfl, by
      have hi' : i < p.q := by simpa [toI] using hi
      have h1 := toI_get y p.q i hi'
      rw [List.getElem?_eq_getElem hi] at h1
      rw [Option.some.inj h1]
      exact cells_box15 g4 (getY ⟨x, y, f, g, m, k, d⟩ i (by omega))⟩⟩
    have l1 : (toI ((List.range p.n).map x)).length = na := by rw [toI_len]; simp [hna]
    have l2 : (toI ((List.range p.q).map y)).length = nb := by rw [toI_len]; simp [hnb]
    have c1 : W1.cell? ⟨W0.heap.size, 0, none⟩ = some (.slice (some ⟨w.heap.size, 0, none⟩) na 5) := cell_box g3 rfl
    have c2 : W1.cell? ⟨W0.heap.size, 1, none⟩ = some (.slice (some ⟨w.heap.size, 5, none⟩) nb 5) := cell_box g3 rfl
    have hR : RowsAt W1 (some ⟨W0.heap.size, 0, none⟩) [toI ((List.range p.n).map x), toI ((List.range p.q).map y)] := ⟨by simp; omega, fun i hi => by
      match i, hi with
      | 0, _ => exact ⟨_, _, _, 5, rfl, by rw [show ([toI ((List.range p.n).map x), toI ((List.range p.q).map y)] : List (List Int))[0] = toI ((List.range p.n).map x) from rfl, l1]; exact c1, r1⟩
      | 1, _ => exact ⟨_, _, _, 5, rfl, by rw [show ([toI ((List.range p.n).map x), toI ((List.range p.q).map y)] : List (List Int))[1] = toI ((List.range p.q).map y) from rfl, l2]; exact c2, r2⟩⟩
    have hfl : ([toI ((List.range p.n).map x), toI ((List.range p.q).map y)] : List (List Int)).flatten = toI (told p ⟨x, y, f, g, m, k, d⟩) := by
      unfold told tolds toI
      simp
    have hlen : (toI (told p ⟨x, y, f, g, m, k, d⟩)).length = p.n + p.q := by rw [toI_len]; unfold told tolds; simp
    have h := concat_any (some ⟨W0.heap.size, 0, none⟩) 2 _ W1 hR (fun i hi b o c e1 e2 => by
      cases e1
      match i, hi with
      | 0, _ => rw [Nat.add_zero, c1] at e2; cases e2
      | 1, _ => rw [Nat.zero_add, c2] at e2; cases e2) (by rw [hfl]; omega) (by rw [hfl]; omega)
    rw [hfl] at h
    refine h.mono ?_
    rintro e w' ⟨q, c, h1, h2, h3⟩
    have hbb := bb.size
    exact ⟨q, c, h1, h2.mono (by omega), bW0.trans ((bb.mono (by omega)).trans (h3.mono (by omega)))⟩)
  have q1 : W0.drew.cell? ⟨w.heap.size + 1, 0, none⟩ = some (.slice pa na ca) := cell_box (W := W0.drew) g2 rfl
  have q2 : W0.drew.cell? ⟨w.heap.size + 1, 1, none⟩ = some (.slice pb nb cb) := cell_box (W := W0.drew) g2 rfl
  have n5 : na ≤ 5 := by omega
  have n6 : nb ≤ 5 := by omega
  have s1 := slice_arr w.heap.size 0 na W0.drew n5
  have s2 := slice_arr w.heap.size 5 nb W0.drew n6
  have HW0 := hid hW0
  clear hW0 b1 b2 bW0 g1 g2 sW0 hna hnb h5 h6 hpos
  go_enter Try.func53, Try.ntmps53
  go_wp2_with fail
  rw [← HW0.out]
  go_region_with ((first
    | (go_at_call 60; refine (HCC.out _ ?_).mono ?_; (with_reducible rfl); rintro e w1 ⟨q, c, rfl, h2, h3⟩; have H2 := hid h2; have H3 := hid h3; clear h2 h3)
    | fail))
  all_goals
    go_wp2_with fail
    go_ret
    exact ⟨_, _, rfl, H2.out, H3.out⟩
end Go.Proofs.Ytbdkogccjnmfoaa
