/- lives. -/
import Derived.Test.YtbdkogccjnmfoaaLiQ
namespace Go.Proofs.Ytbdkogccjnmfoaa
open Go.RowKit Go.Shelf

theorem min23 : IsMin (pbOf [2] [3]) [[3, 2]] := ⟨by rw [show res (pbOf [2] [3]) 13 root = [[3, 2]] by decide +kernel], List.pairwise_singleton _ _⟩
/-- Where the row of vectors has its cells. -/
theorem XRow.cell {w : World} {base : Nat} {q : Option Addr} {c : Nat} {vs : List Vc} {n : Nat} (h : XRow w base (.slice q n c) vs) (i : Nat) (hi : i < vs.length) : ∃ g, q = some ⟨g, 0, none⟩ ∧ vs.length ≤ c ∧ c ≤ maxLen ∧ base ≤ g ∧ w.cell? ⟨g, i, none⟩ = some (vcV vs[i]) := by
  rcases h.row.2 with ⟨_, h2⟩ | ⟨g, cap, cur, h1, h2, h3, h4, h5, h6, h7⟩
  · omega
  · injection h1 with h1 hn hc
    subst h1 hc
    refine ⟨g, rfl, h4, h5, h2, ?_⟩
    rw [cell_of_row w g _ _ 27 (0, 0) h3]
    have e1 : (cur.toList.take (vs.length * 1))[i]? = (vs.map vcV)[i]? := by rw [h7]
    rw [List.getElem?_take, if_pos (by omega), Array.getElem?_toList, List.getElem?_map, List.getElem?_eq_getElem hi] at e1
    exact e1
theorem ints_one {w : World} {b : Nat} {x : Int} (h : w.heap[b]? = some (.cells #[.int .i64 x] 3 (0, 0))) : IntsAt w (some ⟨b, 0, none⟩) [x] := ⟨by unfold maxLen; simp, fun i hi => ⟨b, 0, rfl, by
  match i, hi with
  | 0, _ => exact cell_box h rfl⟩⟩
set_option maxRecDepth 100000 in
set_option maxHeartbeats 4000000 in
theorem lives_any (w : World) : Calls Try.prog 9 #[] w fun e w' => e = .returned (.bool true) ∧ Below w.heap.size w w' := by
  have b1 := alloc_below0 w (.cells #[.int .i64 2] 3)
  have n1 := World.alloc_heap_new w (.cells #[.int .i64 2] 3)
  have s1 := World.size_alloc w (.cells #[.int .i64 2] 3)
  have b2 := alloc_below0 (w.alloc (.cells #[.int .i64 2] 3)) (.cells #[.int .i64 3] 3)
  have n2 := World.alloc_heap_new (w.alloc (.cells #[.int .i64 2] 3)) (.cells #[.int .i64 3] 3)
  rw [s1] at b2 n2
  have i1 := ints_one (below_blk (by rw [s1]; exact b2) n1)
  have i2 := ints_one n2
  have bb : Below w.heap.size w ((w.alloc (.cells #[.int .i64 2] 3)).alloc (.cells #[.int .i64 3] 3)) := b1.trans (b2.mono (by omega))
  have HB := hid (basis_any _ 1 [2] _ 1 [3] _ i1 i2)
  have HBB := hid bb
  clear b1 n1 s1 b2 n2 i1 i2 bb
  go_enter Try.func9, Try.ntmps9
  go_wp2_with fail
  refine HB.out.mono ?_
  rintro e w1 ⟨hb, (⟨h0, _⟩ | ⟨_, vs, hmin, (⟨h16, _⟩ | ⟨_, v, rfl, hX, _⟩)⟩)⟩
  · exact absurd (by decide) h0
  · have := hmin.unique min23
    have h := congrArg List.length this
    rw [List.length_map] at h
    simp at h
    omega
  have hl := hmin.unique min23
  obtain ⟨x, rfl⟩ : ∃ x, vs = [x] := by
    have h := congrArg List.length hl
    rw [List.length_map] at h
    exact List.length_eq_one_iff.1 h
  obtain ⟨b, c, l⟩ := x
  obtain rfl : l = [3, 2] := by simpa using hl
  obtain ⟨q, d, hv⟩ := hX.form
  subst hv
  obtain ⟨g, rfl, h1, h2, _, c1⟩ := hX.cell 0 (Nat.zero_lt_one)
  have hI := (hX.vec _ List.mem_cons_self).ints
  obtain ⟨b1, o1, e1, _, c2⟩ := hI.cells 0 (show 0 < 2 by decide)
  obtain ⟨b2, o2, e2, _, c3⟩ := hI.cells 1 (show 1 < 2 by decide)
  cases e1
  cases e2
  have hc1 : w1.cell? ⟨g, 0, none⟩ = some (.slice (some ⟨b, 0, none⟩) 2 c) := c1
  have hc2 : w1.cell? ⟨b, 0, none⟩ = some (.int .i64 3) := c2
  have hc3 : w1.cell? ⟨b, 1, none⟩ = some (.int .i64 2) := c3
  have hcap := (hX.vec _ List.mem_cons_self).blk
  obtain ⟨_, _, hcc, _, hcm⟩ := hcap
  have hcc' : 2 ≤ c := hcc
  have hd1 : 1 ≤ d := h1
  have HF : Hid (Below w.heap.size w w1) := hid (HBB.out.trans (hb.mono (HBB.out.size)))
  clear hb hX hI c1 c2 c3 hl hmin h1 hcc HB
  rw [show [({ b := b, c := c, l := [3, 2] } : Vc)].length = 1 from rfl]
  go_wp2_with fail
  go_ret
  exact ⟨rfl, HF.out⟩
end Go.Proofs.Ytbdkogccjnmfoaa
