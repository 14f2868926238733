/- The document's sorted. -/
import Derived.Test.YtbdkogccjnmfoaaLkG
import Derived.Test.YtbdkogccjnmfoaaLkD
import Derived.BigRegion
namespace Go.Proofs.Ytbdkogccjnmfoaa
open Go.RowKit Go.Shelf

theorem ahd_cmp : ∀ (l m : List Int), l.length = m.length → (ahdV l m = true ↔ cmpL l m < 0) := by
  intro l
  induction l with
  | nil =>
    intro m h
    cases m with
    | nil => exact ⟨fun e => absurd e (by decide), fun e => absurd e (by decide)⟩
    | cons => simp at h
  | cons x l ih =>
    intro m h
    cases m with
    | nil => simp at h
    | cons y m =>
      rw [ahdV]
      have ih' := ih m (by simpa using h)
      by_cases hxy : x = y
      · subst hxy
        rw [if_pos rfl, ih']
        simp [cmpL, cmpI]
      · rw [if_neg hxy, decide_eq_true_iff]
        unfold cmpL cmpI
        by_cases h1 : x < y
        · simp [h1]
        · have h2 : y < x := by omega
          simp [h1, h2]
/-- Not behind. -/
def Rv (a b : Vc) : Prop := ¬ cmpL (toI b.l) (toI a.l) < 0
theorem Rv.trans {a b c : Vc} (h : Rv a b) (k : Rv b c) : Rv a c := cmpL_ntrans _ _ _ k h
theorem rv_of_ahd {x y : Vc} (hl : x.l.length = y.l.length) (h : ahdV (toI x.l) (toI y.l) = true) : Rv x y := by
  have h1 := (ahd_cmp _ _ (by rw [toI_len, toI_len, hl])).1 h
  have h2 := cmpL_anti (toI x.l) (toI y.l)
  unfold Rv
  omega
theorem rv_of_not {x y : Vc} (hl : x.l.length = y.l.length) (h : ahdV (toI x.l) (toI y.l) = false) : Rv y x := fun h1 => by
  rw [(ahd_cmp _ _ (by rw [toI_len, toI_len, hl])).2 h1] at h
  cases h
theorem ins_sorted {A B : List Vc} {x : Vc} (h : (A ++ B).Pairwise Rv) (hB : ∀ y ∈ B, Rv x y) (hA : A = [] ∨ ∃ A' y, A = A' ++ [y] ∧ Rv y x) : (A ++ x :: B).Pairwise Rv := by
  obtain ⟨h1, h2, h3⟩ := List.pairwise_append.1 h
  refine List.pairwise_append.2 ⟨h1, List.pairwise_cons.2 ⟨hB, h2⟩, fun a ha b hb => ?_⟩
  rcases List.mem_cons.1 hb with rfl | hb
  · rcases hA with rfl | ⟨A', y, rfl, hy⟩
    · cases ha
    · rcases List.mem_append.1 ha with ha | ha
      · exact ((List.pairwise_append.1 h1).2.2 a ha y (List.mem_singleton.2 rfl)).trans hy
      · rw [List.mem_singleton.1 ha]; exact hy
  · exact h3 a ha b hb
theorem own_set1 {w : World} {base e g n c : Nat} {xs : List Value} (h : w.ownsRow base e 1 (.slice (some ⟨g, 0, none⟩) n c) n xs) (j : Nat) (v : Value) : (w.setCell ⟨g, j, none⟩ v).ownsRow base e 1 (.slice (some ⟨g, 0, none⟩) n c) n (xs.set j v) := by
  refine ⟨by rw [List.length_set]; exact h.1, ?_⟩
  rcases h.2 with ⟨h0, _⟩ | ⟨g', cap, cur, h1, h2, h3, h4, h5, h6, h7⟩
  · cases h0
  · injection h1 with h1 _ hc
    injection h1 with h1
    injection h1 with h1 _ _
    subst h1 hc
    exact .inr ⟨g, _, cur.setIfInBounds j v, rfl, h2, block_set h3 v, h4, h5, by rw [Array.size_setIfInBounds]; exact h6, by rw [Array.toList_setIfInBounds, List.take_set, h7]⟩
theorem XRow.set {W : World} {base g n c : Nat} {ms : List Vc} (h : XRow W base (.slice (some ⟨g, 0, none⟩) n c) ms) (j : Nat) (x : Vc) (hx : VcAt W x) : XRow (W.setCell ⟨g, j, none⟩ (vcV x)) base (.slice (some ⟨g, 0, none⟩) n c) (ms.set j x) := by
  obtain ⟨cur, hg, _⟩ := own_blk h.row (q := g) rfl
  have hn : ms.length = n := by
    rcases h.row.2 with ⟨h0, _⟩ | ⟨_, _, _, h1, _⟩
    · cases h0
    · injection h1 with _ h1 _
      exact h1.symm
  have keep : ∀ y, VcAt W y → VcAt (W.setCell ⟨g, j, none⟩ (vcV x)) y := fun y hy => by
    obtain ⟨cu, k1, _⟩ := hy.blk
    exact hy.same (set_far (ne_type k1 hg (by decide)) _)
  have h1 := h.row
  rw [hn] at h1
  refine ⟨?_, fun y hy => ?_⟩
  · rw [List.length_set, hn, List.map_set]
    exact own_set1 h1 j (vcV x)
  · rcases List.mem_or_eq_of_mem_set hy with hy | rfl
    · exact keep y (h.vec y hy)
    · exact keep y hx
theorem swap_list (A B : List Vc) (x y : Vc) : ((A ++ y :: x :: B).set (A.length + 1) y).set A.length x = A ++ x :: y :: B := by
  rw [List.set_append_right _ _ (by omega), List.set_append_right _ _ (by omega)]
  simp
/-- A row under way whose elements were there before. -/
structure Ox (w : World) (ov : Value) (os : List Vc) (W : World) : Prop where
  row : XRow W w.heap.size ov os
  low : Below w.heap.size w W
theorem Ox.drewN {w : World} {ov : Value} {os : List Vc} {W : World} (h : Ox w ov os W) (n : Nat) : Ox w ov os (W.drewN n) :=
  ⟨h.row.keep (fun _ _ => by rw [heap_drewN]) (fun _ _ => by rw [heap_drewN]), below_drewN h.low n⟩
theorem Ox.app {w : World} {ov : Value} {os : List Vc} {W : World} (h : Ox w ov os W) (x : Vc) (hx : VcAt W x) (hn : os.length + 1 ≤ 1000000000000) :
    ∃ ov' wC, (Builtin.append_ #[23, 23] 23 #[ov, .slice (some ⟨W.heap.size, 0, none⟩) 1 1]).run Try.prog (W.alloc (.cells #[vcV x] 27)) = .ok ov' wC ∧ Ox w ov' (os ++ [x]) wC := by
  have b1 := alloc_below0 W (.cells #[vcV x] 27)
  have hs1 := h.low.size; have hs3 := b1.size
  have hX : XRow (W.alloc (.cells #[vcV x] 27)) w.heap.size ov os := h.row.below b1
  obtain ⟨v', w', hr, h2, h3⟩ := run_appX 23 w.heap.size ov os x _ hX W.heap.size (World.alloc_heap_new W _) (by
    obtain ⟨cur, k1, _⟩ := hx.blk
    exact hx.same (b1.block _ (Array.getElem?_eq_some_iff.1 k1).1)) hn (by omega)
  exact ⟨v', w', hr, h2, h.low.trans ((b1.mono hs1).trans (h3.below (fun k hk => hX.own_lt hk) (by omega)))⟩
theorem Ox.swap {w : World} {g n c : Nat} {A B : List Vc} {x y : Vc} {W : World} (h : Ox w (.slice (some ⟨g, 0, none⟩) n c) (A ++ y :: x :: B) W) : Ox w (.slice (some ⟨g, 0, none⟩) n c) (A ++ x :: y :: B) ((W.setCell ⟨g, A.length + 1, none⟩ (vcV y)).setCell ⟨g, A.length, none⟩ (vcV x)) := by
  have hy := h.row.vec y (by simp)
  have hx := h.row.vec x (by simp)
  obtain ⟨cur, hg, hgb⟩ := own_blk h.row.row (q := g) rfl
  have h1 := h.row.set (A.length + 1) y hy
  have hx1 : VcAt (W.setCell ⟨g, A.length + 1, none⟩ (vcV y)) x := by
    obtain ⟨cu, k1, _⟩ := hx.blk
    exact hx.same (set_far (ne_type k1 hg (by decide)) _)
  have h2 := h1.set A.length x hx1
  rw [swap_list] at h2
  exact ⟨h2, (h.low.setCell (p := ⟨g, A.length + 1, none⟩) hgb _).setCell (p := ⟨g, A.length, none⟩) hgb _⟩
theorem XRow.cellA {W : World} {base g n c : Nat} {ms : List Vc} (h : XRow W base (.slice (some ⟨g, 0, none⟩) n c) ms) (A B : List Vc) (x : Vc) (hm : ms = A ++ x :: B) : W.cell? ⟨g, A.length, none⟩ = some (vcV x) ∧ W.frozen? ⟨g, A.length, none⟩ = false := by
  obtain ⟨g', e, _, _, _, h2⟩ := h.cell A.length (by rw [hm]; simp)
  injection e with e
  injection e with e _ _
  subst e
  obtain ⟨cur, hg, _⟩ := own_blk h.row (q := g) rfl
  refine ⟨?_, free_box hg⟩
  rw [h2]
  subst hm
  simp
end Go.Proofs.Ytbdkogccjnmfoaa
