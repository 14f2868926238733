/- The document's Pop, Drop, Weigh. -/
import Derived.Test.YtchjdpmgocapjaaAgRd
namespace Go.Proofs.Ytchjdpmgocapjaa
open Go.RowKit Go.Shelf

/-- Without the thing at a place: the cut, laid into the agenda. -/
theorem rcut {w w1 w2 : World} {B : Nat} {most last : Int} {L : List Th} {G : Nat → Prop} {k : Nat} (h : RAt w B most last L G) (hb : Below w.heap.size w w1) {v' : Value} (ht : TOwn w1 v' (L.eraseIdx k)) (hv : ∀ q, v'.ownBlock = some q → w.heap.size ≤ q) (h2 : w2 = w1.setCell ⟨B, 2, none⟩ v') : REnd w w2 B most last (L.eraseIdx k) G := by
  obtain ⟨v, g1, _, g3, _⟩ := id h
  have hle := List.length_eraseIdx_le L k
  exact rput h (Fr.of_below hb) (below_blk hb g1) ht (fun q hq => .inr (hv q hq)) (by omega) h2
set_option maxRecDepth 100000 in
set_option maxHeartbeats 2000000 in
theorem rdrop_any {w : World} {B : Nat} {most last : Int} {L : List Th} {G : Nat → Prop} (h : RAt w B most last L G) (hR : Rise L) (t : Int) : Calls Try.prog 35 #[.pointer (some ⟨B, 0, none⟩), .int .i64 t] w fun e w' => e = .returned (.bool (hasT L t)) ∧ REnd w w' B most last (dropT L t) G := by
  have HH := hid h
  obtain ⟨v, g1, g2, g3, g4, g5, g6, g7⟩ := h
  obtain ⟨p, c, rfl⟩ := g2.form
  have c2 : w.cell? ⟨B, 2, none⟩ = some (.slice p L.length c) := cell_box g1 rfl
  have HF := hid (rfind_any B p c L t w c2 g2 (by omega))
  rcases find_spec (L := L) (t := t) with ⟨e1, e2⟩ | ⟨k, hk, e1, e2, e3⟩
  · rw [e2, drop_none e2]
    rw [e1] at HF
    clear g1 g2 g6 g7 e1 e2
    go_enter Try.func35, Try.ntmps35
    go_wp2_with fail
    refine HF.out.mono ?_
    rintro e w1 ⟨rfl, rfl⟩
    go_wp2_with fail
    go_ret
    exact ⟨rfl, REnd.same HH.out (Below.refl _ _)⟩
  · rw [e3]
    rw [e1] at HF
    have HDA := hid (drop_at hR hk)
    rw [e2] at HDA
    obtain ⟨g, cur, rfl, _, _⟩ := g2.some (by omega)
    have HCUT := hid (cut_any g c L k hk w g2 (by omega))
    have HG1 := hid g1
    have hk0 : decide ((0 : Int) ≤ (k : Int)) = true := decide_eq_true (by omega)
    clear g1 g2 g6 g7 e1 e2 e3
    go_enter Try.func35, Try.ntmps35
    go_wp2_with fail
    refine HF.out.mono ?_
    rintro e w1 ⟨rfl, rfl⟩
    go_wp2_with fail
    refine HCUT.out.mono ?_
    rintro e w2 ⟨v', rfl, hT, hb2, hv'⟩
    have g12 := below_blk hb2 HG1.out
    have c22 := cell_box g12 (i := 2) rfl
    have f22 := free_box (i := 2) g12
    have HEND := hid (rcut HH.out hb2 hT hv' rfl)
    obtain ⟨p', n', c', rfl⟩ : ∃ p n c, v' = .slice p n c := by obtain ⟨p, c, h⟩ := hT.form; exact ⟨p, _, c, h⟩
    clear hT hb2 hv' g12
    go_wp2_with fail
    go_ret
    exact ⟨rfl, by rw [HDA.out]; exact HEND.out⟩
set_option maxRecDepth 100000 in
set_option maxHeartbeats 2000000 in
theorem rpop_any {w : World} {B : Nat} {most last : Int} {L : List Th} {G : Nat → Prop} (h : RAt w B most last L G) : Calls Try.prog 34 #[.pointer (some ⟨B, 0, none⟩)] w fun e w' => e = .returned (peekV L) ∧ REnd w w' B most last (popL L) G := by
  have HH := hid h
  obtain ⟨v, g1, g2, g3, g4, g5, g6, g7⟩ := h
  obtain ⟨p, c, rfl⟩ := g2.form
  have c2 : w.cell? ⟨B, 2, none⟩ = some (.slice p L.length c) := cell_box g1 rfl
  have HN := hid (next_any p c L w g2 (by omega))
  by_cases hL : L = []
  · subst hL
    rw [peek_none rfl]
    have hv : nxV [] = -1 := rfl
    rw [hv] at HN
    clear g1 g2 g6 g7 hv
    go_enter Try.func34, Try.ntmps34
    go_wp2_with fail
    refine HN.out.mono ?_
    rintro e w1 ⟨rfl, hb⟩
    have HB := hid hb
    clear hb
    go_wp2_with fail
    go_ret3
    exact ⟨rfl, REnd.same HH.out HB.out⟩
  · have hn := nx_lt hL
    obtain ⟨g, cur, rfl, _, hc1, hc2, hg, hcs, hat⟩ := g2.some (by omega)
    rw [peek_eq hn]
    have hv : nxV L = (nxI L : Int) := by unfold nxV; rw [if_neg hL]
    rw [hv] at HN
    have HG1 := hid g1; have HG := hid hg; have HAT := hid (hat (nxI L) hn)
    have HT2 := hid g2
    unfold popL
    generalize L[nxI L] = t at *
    generalize nxI L = k at *
    have hkz : (k : Int) < (L.length : Int) := by omega
    have hk0 : decide ((k : Int) < 0) = false := decide_eq_false (by omega)
    clear g1 g2 g6 g7 hv hat hg
    go_enter Try.func34, Try.ntmps34
    go_wp2_with fail
    refine HN.out.mono ?_
    rintro e w1 ⟨rfl, hb⟩
    have hg1 := below_blk hb HG.out
    have hB1 := below_blk hb HG1.out
    have c21 : w1.cell? ⟨B, 2, none⟩ = some (.slice (some ⟨g, 0, none⟩) L.length c) := cell_box hB1 rfl
    have x0 : w1.cell? ⟨g, k * 3, none⟩ = some (.int .i64 t.x) := cell_box hg1 (HAT.out 0 (by omega))
    have x1 : w1.cell? ⟨g, k * 3 + 1, none⟩ = some (.int .i64 t.wt) := cell_box hg1 (HAT.out 1 (by omega))
    have x2 : w1.cell? ⟨g, k * 3 + 2, none⟩ = some (.int .i64 t.tk) := cell_box hg1 (HAT.out 2 (by omega))
    have ba := alloc_below0 w1 (.cells #[.int .i64 t.x, .int .i64 t.wt, .int .i64 t.tk] 85)
    have na := World.alloc_heap_new w1 (.cells #[.int .i64 t.x, .int .i64 t.wt, .int .i64 t.tk] 85)
    have c22 := below_cell ba _ _ c21
    have bw2 : Below w.heap.size w (w1.alloc (.cells #[.int .i64 t.x, .int .i64 t.wt, .int .i64 t.tk] 85)) := hb.trans (ba.mono hb.size)
    have HCUT := hid (cut_any g c L k (by omega) _ (HT2.out.fr (Fr.of_below (A := fun _ => False) bw2) (fun _ _ hx => hx)) (by omega))
    have HBW := hid bw2; have HNA := hid na; have HB2 := hid (below_blk bw2 HG1.out)
    have HSZ : Hid (w1.heap.size < (w1.alloc (.cells #[.int .i64 t.x, .int .i64 t.wt, .int .i64 t.tk] 85)).heap.size) := hid (by rw [World.size_alloc]; omega)
    clear hb hg1 hB1 ba na bw2
    go_wp2_with fail
    refine HCUT.out.mono ?_
    rintro e w3 ⟨v', rfl, hT, hb3, hv'⟩
    have g13 := below_blk hb3 HB2.out
    have c23 := cell_box g13 (i := 2) rfl
    have f23 := free_box (i := 2) g13
    have n3 := below_blk hb3 HNA.out
    have hb03 := HBW.out.trans (hb3.mono HBW.out.size)
    have HEND := hid (rcut HH.out hb03 hT (fun q hq => Nat.le_trans HBW.out.size (hv' q hq)) rfl)
    obtain ⟨p', n', c', rfl⟩ : ∃ p n c, v' = .slice p n c := by obtain ⟨p, c, h⟩ := hT.form; exact ⟨p, _, c, h⟩
    have hne : w1.heap.size ≠ B := fun e => by
      have h9 : (50 : Nat) = 85 := by
        rw [← e, n3] at g13
        injection g13 with h1
        injection h1 with _ h2
        exact absurd h2.symm (by decide)
      cases h9
    have y0 : (w3.setCell ⟨B, 2, none⟩ (.slice p' n' c')).cell? ⟨w1.heap.size, 0, none⟩ = some (.int .i64 t.x) := cell_box ((set_far hne _).trans n3) rfl
    have y2 : (w3.setCell ⟨B, 2, none⟩ (.slice p' n' c')).cell? ⟨w1.heap.size, 2, none⟩ = some (.int .i64 t.tk) := cell_box ((set_far hne _).trans n3) rfl
    clear hT hb3 hv' g13 n3 hb03 hne
    go_wp2_with fail
    go_big_quiet (fail)
    go_wp2_with fail
    go_ret3
    refine ⟨rfl, ?_⟩
    obtain ⟨G', r1, r2, r3⟩ := HEND.out
    exact ⟨G', r1.below ⟨rfl, rfl, rfl, Nat.le_refl _, fun _ _ => rfl⟩, ⟨⟨r2.low.os, r2.low.tape, r2.low.output, r2.low.size, r2.low.block⟩, r2.same⟩, r3⟩
end Go.Proofs.Ytchjdpmgocapjaa
