/- The document's Weigh and Push. -/
import Derived.Test.YtchjdpmgocapjaaAgRe
namespace Go.Proofs.Ytchjdpmgocapjaa
open Go.RowKit Go.Shelf

theorem thAll_set : ∀ (L : List Th) (k : Nat) (hk : k < L.length) (w : Int), (thAll L).set (k * 3 + 1) (.int .i64 w) = thAll (L.set k { L[k] with wt := w })
  | [], _, h, _ => by simp at h
  | t :: r, 0, _, w => rfl
  | t :: r, k + 1, h, w => by
    have ih := thAll_set r k (by simpa using h) w
    show (thC t ++ thAll r).set ((k + 1) * 3 + 1) _ = thC t ++ thAll (r.set k _)
    rw [List.set_append_right _ _ (by simp [thC]; omega), show (k + 1) * 3 + 1 - (thC t).length = k * 3 + 1 by simp [thC]; omega, ih]
    rfl
theorem TOwn.set {w : World} {g c : Nat} {L : List Th} (h : TOwn w (.slice (Option.some ⟨g, 0, none⟩) L.length c) L) {k : Nat} (hk : k < L.length) (wt : Int) : TOwn (w.setCell ⟨g, k * 3 + 1, none⟩ (.int .i64 wt)) (.slice (Option.some ⟨g, 0, none⟩) L.length c) (L.set k { L[k] with wt := wt }) := by
  rcases h.2 with ⟨h1, _⟩ | ⟨g', cap, cur, h1, h2, h3, h4, h5, h6, h7⟩
  · cases h1
  · cases h1
    refine ⟨by rw [thAll_len], .inr ⟨g, c, cur.setIfInBounds (k * 3 + 1) (.int .i64 wt), by rw [List.length_set], h2, block_set h3 _, by rw [List.length_set]; exact h4, h5, by rw [Array.size_setIfInBounds]; exact h6, ?_⟩⟩
    rw [List.length_set, ← thAll_set L k hk wt, ← h7, Array.toList_setIfInBounds, List.take_set]
set_option maxRecDepth 100000 in
set_option maxHeartbeats 2000000 in
theorem rweigh_any {w : World} {B : Nat} {most last : Int} {L : List Th} {G : Nat → Prop} (h : RAt w B most last L G) (hR : Rise L) (t wt : Int) : Calls Try.prog 36 #[.pointer (some ⟨B, 0, none⟩), .int .i64 t, .int .i64 wt] w fun e w' => e = .returned (.bool (hasT L t)) ∧ REnd w w' B most last (weighT L t wt) G := by
  have HH := hid h
  obtain ⟨v, g1, g2, g3, g4, g5, g6, g7⟩ := h
  obtain ⟨p, c, rfl⟩ := g2.form
  have c2 : w.cell? ⟨B, 2, none⟩ = some (.slice p L.length c) := cell_box g1 rfl
  have HF := hid (rfind_any B p c L t w c2 g2 (by omega))
  rcases find_spec (L := L) (t := t) with ⟨e1, e2⟩ | ⟨k, hk, e1, e2, e3⟩
  · rw [e2, weigh_none e2]
    rw [e1] at HF
    clear g1 g2 g6 g7 e1 e2
    go_enter Try.func36, Try.ntmps36
    go_wp2_with fail
    refine HF.out.mono ?_
    rintro e w1 ⟨rfl, rfl⟩
    go_wp2_with fail
    go_ret
    exact ⟨rfl, REnd.same HH.out (Below.refl _ _)⟩
  · rw [e3]
    rw [e1] at HF
    have HDA := hid (weigh_at hR hk wt)
    rw [e2] at HDA
    obtain ⟨g, cur, rfl, _, hc1, hc2, hg, hcs, hat⟩ := g2.some (by omega)
    have x1 : w.cell? ⟨g, k * 3 + 1, none⟩ = some (.int .i64 L[k].wt) := cell_box hg (hat k hk 1 (by omega))
    have f1 : w.frozen? ⟨g, k * 3 + 1, none⟩ = false := free_box hg
    have HEND : Hid (REnd w (w.setCell ⟨g, k * 3 + 1, none⟩ (.int .i64 wt)) B most last (L.set k { L[k] with wt := wt }) G) := hid (by
      have hfr : Fr (fun b => b = g) w (w.setCell ⟨g, k * 3 + 1, none⟩ (.int .i64 wt)) := fr_set _ _ _ _
      have hgB : g ≠ B := ne_type hg g1 (by decide)
      refine ⟨G, ⟨_, (hfr.same B (Array.getElem?_eq_some_iff.1 g1).1 (fun e => hgB e.symm)).trans g1, g2.set hk wt, by rw [List.length_set]; exact g3, g4, g5, g6, fun b hb => Nat.lt_of_lt_of_le (g7 b hb) hfr.low.size⟩, hfr.mono (fun q hq => by rw [hq]; exact g6 g rfl), fun b hb => .inl hb⟩)
    have hk0 : decide ((0 : Int) ≤ (k : Int)) = true := decide_eq_true (by omega)
    have hkz : (k : Int) < (L.length : Int) := by omega
    generalize L[k].wt = xw at x1
    clear g1 g2 g6 g7 e1 e2 e3 hat hg
    go_enter Try.func36, Try.ntmps36
    go_wp2_with fail
    refine HF.out.mono ?_
    rintro e w1 ⟨rfl, rfl⟩
    go_wp2_with fail
    go_ret
    exact ⟨rfl, by rw [HDA.out]; exact HEND.out⟩
set_option maxRecDepth 100000 in
set_option maxHeartbeats 2000000 in
theorem rpush_full {w : World} {B : Nat} {most last : Int} {L : List Th} {G : Nat → Prop} (h : RAt w B most last L G) (x wt : Int) (hf : most ≤ L.length) : Calls Try.prog 33 #[.pointer (some ⟨B, 0, none⟩), .int .i64 x, .int .i64 wt] w fun e w' => e = .returned (.tuple #[.int .i64 0, .int .i64 111]) ∧ REnd w w' B most last L G := by
  have HH := hid h
  obtain ⟨v, g1, g2, g3, g4, g5, g6, g7⟩ := h
  obtain ⟨p, c, rfl⟩ := g2.form
  have c2 : w.cell? ⟨B, 2, none⟩ = some (.slice p L.length c) := cell_box g1 rfl
  have c0 : w.cell? ⟨B, 0, none⟩ = some (.int .i64 most) := cell_box g1 rfl
  have heq : ((L.length : Int) == most) = true := by simp; omega
  clear g1 g2 g6 g7
  go_enter Try.func33, Try.ntmps33
  go_wp2_with fail
  go_big_quiet (fail)
  go_wp2_with fail
  go_ret2
  exact ⟨rfl, REnd.same HH.out (below_drewN (Below.refl _ _) _)⟩
set_option maxRecDepth 100000 in
set_option maxHeartbeats 4000000 in
theorem rpush_more {w : World} {B : Nat} {most last : Int} {L : List Th} {G : Nat → Prop} (h : RAt w B most last L G) (x wt : Int) (hf : (L.length : Int) < most) (hl0 : 0 ≤ last) (hl : last < 9223372036854775807) : Calls Try.prog 33 #[.pointer (some ⟨B, 0, none⟩), .int .i64 x, .int .i64 wt] w fun e w' => e = .returned (.tuple #[.int .i64 (last + 1), .int .i64 0]) ∧ REnd w w' B most (last + 1) (L ++ [⟨x, wt, last + 1⟩]) G := by
  have HH := hid h
  obtain ⟨v, g1, g2, g3, g4, g5, g6, g7⟩ := h
  obtain ⟨p, c, rfl⟩ := g2.form
  have c2 : w.cell? ⟨B, 2, none⟩ = some (.slice p L.length c) := cell_box g1 rfl
  have c0 : w.cell? ⟨B, 0, none⟩ = some (.int .i64 most) := cell_box g1 rfl
  have heq : ((L.length : Int) == most) = false := by rw [beq_eq_false_iff_ne]; omega
  have HG1 := hid g1; have HG2 := hid g2; have HG6 := hid g6
  clear g1 g2 g6 g7
  go_enter Try.func33, Try.ntmps33
  go_wp2_with fail
  go_big_quiet (fail)
  obtain ⟨w0, hw0⟩ : ∃ w0, w.drewN nq = w0 := ⟨_, rfl⟩
  have b0 : w0.heap[B]? = some (.cells #[.int .i64 most, .int .i64 last, .slice p L.length c] 50 (0, 0)) := by rw [← hw0]; exact HG1.out
  have t0 : TOwn w0 (.slice p L.length c) L := by rw [← hw0]; exact HG2.out
  have fr0 : Fr G w w0 := by rw [← hw0]; exact ⟨below_drewN (Below.refl _ _) _, fun _ _ _ => rfl⟩
  rw [hw0]
  clear hw0
  have d1 : w0.cell? ⟨B, 1, none⟩ = some (.int .i64 last) := cell_box b0 rfl
  have f1 : w0.frozen? ⟨B, 1, none⟩ = false := free_box b0
  have b1 := block_set (k := 1) b0 (.int .i64 (last + 1))
  have fr1 : Fr (fun q => q = B) w0 (w0.setCell ⟨B, 1, none⟩ (.int .i64 (last + 1))) := fr_set _ _ _ _
  have hpB : (Value.slice p L.length c).ownBlock ≠ some B := fun e => by
    obtain ⟨cur, hc⟩ := t0.row e
    exact ne_type hc b0 (by decide) rfl
  have t1 : TOwn (w0.setCell ⟨B, 1, none⟩ (.int .i64 (last + 1))) (.slice p L.length c) L := t0.fr fr1 (fun g hg e => hpB (by rw [← e]; exact hg))
  have s1 : (w0.setCell ⟨B, 1, none⟩ (.int .i64 (last + 1))).heap.size = w0.heap.size := by simp
  generalize hW : w0.setCell ⟨B, 1, none⟩ (.int .i64 (last + 1)) = W at b1 fr1 t1 s1
  have ba := alloc_below0 W (.cells #[.int .i64 x, .int .i64 wt, .int .i64 (last + 1)] 85)
  have na := World.alloc_heap_new W (.cells #[.int .i64 x, .int .i64 wt, .int .i64 (last + 1)] 85)
  have t2 : TOwn (W.alloc (.cells #[.int .i64 x, .int .i64 wt, .int .i64 (last + 1)] 85)).drew (.slice p L.length c) L := t1.fr (Fr.of_below (A := fun _ => False) ba.drew) (fun _ _ hx => hx)
  obtain ⟨v', w3, hr3, hT3, hf3, hv3⟩ := app_th _ L [⟨x, wt, last + 1⟩] _ t2 ⟨W.heap.size, 0, none⟩ 1 1 rfl (fun j u hj => by
    rw [Addr.add_lit, Nat.zero_add]
    refine cell_box (W := (W.alloc (.cells #[.int .i64 x, .int .i64 wt, .int .i64 (last + 1)] 85)).drew) na ?_
    simpa [thAll, thC] using hj) (by simp; omega)
  have b3 : w3.heap[B]? = some (.cells #[.int .i64 most, .int .i64 (last + 1), .slice p L.length c] 50 (0, 0)) := (hf3.same B (Nat.lt_of_lt_of_le (Array.getElem?_eq_some_iff.1 b1).1 ba.size) hpB).trans (below_blk ba.drew b1)
  have frA : Fr G w w3 := ((fr0.trans (fr1.mono (fun q hq => by rw [hq]; exact g5))).trans (Fr.of_below ba.drew)).trans (hf3.mono (fun q hq => HG6.out q hq))
  have hwz : w.heap.size ≤ W.heap.size := by have := fr0.low.size; omega
  have HEND := hid (rput HH.out frA b3 hT3 (fun q hq => by
    rcases hv3 q hq with h9 | h9
    · exact .inl (HG6.out q h9)
    · right
      have h8 : (W.alloc (.cells #[.int .i64 x, .int .i64 wt, .int .i64 (last + 1)] 85)).heap.size ≤ q := h9
      rw [World.size_alloc] at h8
      omega) (by simp; omega) rfl)
  obtain ⟨p', n', c', rfl⟩ : ∃ p n c, v' = .slice p n c := by obtain ⟨p, c, h⟩ := hT3.form; exact ⟨p, _, c, h⟩
  have e1 : W.drew.cell? ⟨B, 1, none⟩ = some (.int .i64 (last + 1)) := cell_box (W := W.drew) b1 rfl
  have e2 : W.drew.cell? ⟨B, 2, none⟩ = some (.slice p L.length c) := cell_box (W := W.drew) b1 rfl
  have bd : (W.alloc (.cells #[.int .i64 x, .int .i64 wt, .int .i64 (last + 1)] 85)).drew.heap[B]? = some (.cells #[.int .i64 most, .int .i64 (last + 1), .slice p L.length c] 50 (0, 0)) := below_blk ba.drew b1
  have e3 : (W.alloc (.cells #[.int .i64 x, .int .i64 wt, .int .i64 (last + 1)] 85)).drew.cell? ⟨B, 2, none⟩ = some (.slice p L.length c) := cell_box bd rfl
  have e4 : w3.cell? ⟨B, 2, none⟩ = some (.slice p L.length c) := cell_box b3 rfl
  have e5 : w3.frozen? ⟨B, 2, none⟩ = false := free_box b3
  have e6 : (w3.setCell ⟨B, 2, none⟩ (.slice p' n' c')).cell? ⟨B, 1, none⟩ = some (.int .i64 (last + 1)) := cell_box (block_set b3 _) rfl
  clear b0 t0 fr0 b1 fr1 hpB t1 ba na t2 hT3 hf3 hv3 b3 frA hwz bd s1 c0 c2 heq
  go_wp2_with fail
  clear hW d1 f1
  go_region_law (first
    | ((with_reducible refine step_append_run ?_ (.tmp 29) (.tmp 37) 48 ?_ _ _ ?_ ?_ _ _ hr3 ?_); (solve | rfl); (solve | rfl); (solve | rfl); (solve | rfl))
    | fail)
  all_goals
    go_wp2_with fail
    go_ret2
    exact ⟨rfl, HEND.out⟩
end Go.Proofs.Ytchjdpmgocapjaa
