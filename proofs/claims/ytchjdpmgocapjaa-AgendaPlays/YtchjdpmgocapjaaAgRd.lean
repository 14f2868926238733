/- The document's agenda: New, Peek, Pop, Drop, Weigh. -/
import Derived.Test.YtchjdpmgocapjaaAgRc
namespace Go.Proofs.Ytchjdpmgocapjaa
open Go.RowKit Go.Shelf

theorem drop_at {L : List Th} (hR : Rise L) {k : Nat} (hk : k < L.length) : dropT L L[k].tk = L.eraseIdx k := by
  unfold dropT
  induction L generalizing k with
  | nil => simp at hk
  | cons a r ih =>
    have hr := (List.pairwise_cons.1 hR)
    cases k with
    | zero =>
      rw [List.filter_cons_of_neg (by simp), List.eraseIdx_cons_zero, List.filter_eq_self]
      intro b hb
      have := hr.1 b hb
      simp
      omega
    | succ k =>
      have hk' : k < r.length := by simpa using hk
      have := hr.1 r[k] (List.getElem_mem hk')
      simp only [List.getElem_cons_succ]
      rw [List.filter_cons_of_pos (by simp; omega), List.eraseIdx_cons_succ, ih hr.2 hk']
theorem weigh_at {L : List Th} (hR : Rise L) {k : Nat} (hk : k < L.length) (w : Int) : weighT L L[k].tk w = L.set k { L[k] with wt := w } := by
  unfold weighT
  refine List.ext_getElem (by simp) (fun i h1 h2 => ?_)
  have hi : i < L.length := by simpa using h1
  rw [List.getElem_map, List.getElem_set]
  by_cases hik : k = i
  · subst hik
    rw [if_pos rfl, if_pos rfl]
  · rw [if_neg hik, if_neg]
    intro e
    rcases Nat.lt_or_ge i k with h | h
    · have := List.pairwise_iff_getElem.1 hR i k hi hk h; omega
    · have := List.pairwise_iff_getElem.1 hR k i hk hi (by omega); omega
/-- The document's agenda, within blocks of its own. -/
def RAt (w : World) (B : Nat) (most last : Int) (L : List Th) (G : Nat → Prop) : Prop := ∃ v, w.heap[B]? = some (.cells #[.int .i64 most, .int .i64 last, v] 50 (0, 0)) ∧ TOwn w v L ∧ (L.length : Int) ≤ most ∧ most ≤ 65536 ∧ G B ∧ (∀ g, v.ownBlock = some g → G g) ∧ ∀ b, G b → b < w.heap.size
def REnd (w w' : World) (B : Nat) (most last : Int) (L : List Th) (G : Nat → Prop) : Prop := ∃ G', RAt w' B most last L G' ∧ Fr G w w' ∧ ∀ b, G' b → G b ∨ w.heap.size ≤ b
theorem RAt.fr {w w' : World} {B : Nat} {most last : Int} {L : List Th} {G P : Nat → Prop} (h : RAt w B most last L G) (hf : Fr P w w') (hF : ∀ b, G b → ¬ P b) : RAt w' B most last L G := by
  obtain ⟨v, h1, h2, h3, h4, h5, h6, h7⟩ := h
  exact ⟨v, (hf.same B (Array.getElem?_eq_some_iff.1 h1).1 (hF _ h5)).trans h1, h2.fr hf (fun g hg => hF _ (h6 g hg)), h3, h4, h5, h6, fun b hb => Nat.lt_of_lt_of_le (h7 b hb) hf.low.size⟩
theorem RAt.below {w w' : World} {B : Nat} {most last : Int} {L : List Th} {G : Nat → Prop} (h : RAt w B most last L G) (hb : Below w.heap.size w w') : RAt w' B most last L G := h.fr (Fr.of_below (A := fun _ => False) hb) (fun _ _ hx => hx)
theorem RAt.lt {w : World} {B : Nat} {most last : Int} {L : List Th} {G : Nat → Prop} (h : RAt w B most last L G) : ∀ b, G b → b < w.heap.size := by
  obtain ⟨v, h1, h2, h3, h4, h5, h6, h7⟩ := h
  exact h7
theorem REnd.same {w w' : World} {B : Nat} {most last : Int} {L : List Th} {G : Nat → Prop} (h : RAt w B most last L G) (hb : Below w.heap.size w w') : REnd w w' B most last L G := ⟨G, h.below hb, Fr.of_below hb, fun _ h => .inl h⟩
/-- A new row is laid into the agenda. -/
theorem rput {w w1 w2 : World} {B : Nat} {most last last' : Int} {L L' : List Th} {G : Nat → Prop} (h : RAt w B most last L G) (hf : Fr G w w1) {v0 : Value} (hbx : w1.heap[B]? = some (.cells #[.int .i64 most, .int .i64 last', v0] 50 (0, 0))) {v' : Value} (ht : TOwn w1 v' L') (hv : ∀ q, v'.ownBlock = some q → G q ∨ w.heap.size ≤ q) (hl : (L'.length : Int) ≤ most) (h2 : w2 = w1.setCell ⟨B, 2, none⟩ v') : REnd w w2 B most last' L' G := by
  obtain ⟨v, g1, g2, g3, g4, g5, g6, g7⟩ := h
  have hBl : B < w1.heap.size := (Array.getElem?_eq_some_iff.1 hbx).1
  have hvB : v'.ownBlock ≠ some B := fun e => by
    obtain ⟨cur, hc⟩ := ht.row e
    exact ne_type hc hbx (by decide) rfl
  have fr2 : Fr (fun q => q = B) w1 w2 := by rw [h2]; exact fr_set _ _ _ _
  have s1 := hf.low.size
  have s2 := fr2.low.size
  refine ⟨fun b => G b ∨ v'.ownBlock = some b, ⟨v', by rw [h2]; exact block_set hbx v', ht.fr fr2 (fun g hg e => hvB (by rw [← e]; exact hg)), hl, g4, .inl g5, fun g hg => .inr hg, fun b hb => ?_⟩, ?_, fun b hb => ?_⟩
  · rcases hb with hb | hb
    · have := g7 b hb; omega
    · obtain ⟨cur, hc⟩ := ht.row hb
      have := (Array.getElem?_eq_some_iff.1 hc).1
      omega
  · exact hf.trans (fr2.mono (fun q hq => by rw [hq]; exact g5))
  · rcases hb with hb | hb
    · exact .inl hb
    · exact hv b hb
theorem rnew_any (most : Int) (h1 : 1 ≤ most) (h2 : most ≤ 65536) (w : World) : Calls Try.prog 16 #[.int .i64 most] w fun e w' => ∃ B G, e = .returned (.pointer (some ⟨B, 0, none⟩)) ∧ RAt w' B most 0 [] G ∧ Below w.heap.size w w' ∧ ∀ b, G b → w.heap.size ≤ b := by
  have hb := alloc_below0 w (.cells #[.int .i64 most, .int .i64 0, .slice none 0 0] 50)
  have nb := World.alloc_heap_new w (.cells #[.int .i64 most, .int .i64 0, .slice none 0 0] 50)
  have HR : Hid (RAt (w.alloc (.cells #[.int .i64 most, .int .i64 0, .slice none 0 0] 50)) w.heap.size most 0 [] (fun b => b = w.heap.size)) := hid ⟨_, nb, town_nil _, (by simp; omega), h2, rfl, fun g hg => (by cases hg), fun b e => (by rw [World.size_alloc]; omega)⟩
  have HB := hid hb
  clear hb nb
  go_enter Try.func16, Try.ntmps16
  go_wp2_with fail
  go_ret
  exact ⟨_, _, rfl, HR.out, HB.out, fun b e => Nat.le_of_eq e.symm⟩
set_option maxRecDepth 100000 in
theorem rpeek_any {w : World} {B : Nat} {most last : Int} {L : List Th} {G : Nat → Prop} (h : RAt w B most last L G) : Calls Try.prog 38 #[.pointer (some ⟨B, 0, none⟩)] w fun e w' => e = .returned (peekV L) ∧ Below w.heap.size w w' := by
  obtain ⟨v, g1, g2, g3, g4, g5, g6, g7⟩ := h
  obtain ⟨p, c, rfl⟩ := g2.form
  have HN := hid (next_any p c L w g2 (by omega))
  have c2 : w.cell? ⟨B, 2, none⟩ = some (.slice p L.length c) := cell_box g1 rfl
  by_cases hL : L = []
  · subst hL
    rw [peek_none rfl]
    have hv : nxV [] = -1 := rfl
    rw [hv] at HN
    clear g1 g2 g6 g7 hv
    go_enter Try.func38, Try.ntmps38
    go_wp2_with fail
    refine HN.out.mono ?_
    rintro e w1 ⟨rfl, hb⟩
    have HB := hid hb
    clear hb
    go_wp2_with fail
    go_ret3
    exact ⟨rfl, HB.out⟩
  · have hn := nx_lt hL
    obtain ⟨g, cur, rfl, _, hc1, hc2, hg, hcs, hat⟩ := g2.some (by omega)
    rw [peek_eq hn]
    have hv : nxV L = (nxI L : Int) := by unfold nxV; rw [if_neg hL]
    rw [hv] at HN
    have HC := hid c2; have HG := hid hg; have HAT := hid (hat (nxI L) hn)
    generalize L[nxI L] = t at *
    generalize nxI L = k at *
    have hkz : (k : Int) < (L.length : Int) := by omega
    have hk0 : decide ((k : Int) < 0) = false := decide_eq_false (by omega)
    clear g1 g2 g6 g7 hv hat hg
    go_enter Try.func38, Try.ntmps38
    go_wp2_with fail
    refine HN.out.mono ?_
    rintro e w1 ⟨rfl, hb⟩
    have hg1 := below_blk hb HG.out
    have c21 := below_cell hb _ _ HC.out
    have x0 : w1.cell? ⟨g, k * 3, none⟩ = some (.int .i64 t.x) := cell_box hg1 (HAT.out 0 (by omega))
    have x2 : w1.cell? ⟨g, k * 3 + 2, none⟩ = some (.int .i64 t.tk) := cell_box hg1 (HAT.out 2 (by omega))
    have HB := hid hb
    clear hb hg1
    go_wp2_with fail
    go_big_quiet (fail)
    go_wp2_with fail
    go_ret3
    exact ⟨rfl, below_drewN HB.out _⟩
end Go.Proofs.Ytchjdpmgocapjaa
