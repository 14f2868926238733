/- What the reader's whole answers: a term, which is noted down behind those that were read ahead of it. -/
import Derived.Test.YtkcbhbkldcebiaaXTerm
namespace Go.Proofs.Ytkcbhbkldcebiaa
open Go.RowKit Go.Deep

theorem RdBox.set3 {W : World} {B : Nat} {sg tv : Value} {s : ByteArray} {k : Nat} (h : RdBox W B sg s k tv) (v : Value) : RdBox (W.setCell ⟨B, 3, none⟩ v) B sg s k v := by
  have := block_set (k := 3) h v
  exact this
/-- How whole ends. -/
def WholeEnd (B : Nat) (sg : Value) (s : ByteArray) (b : Nat) (ks : List Kv) (w : World) (res : Except (Int × Nat) (Fo × Nat)) (e : Ending) (w' : World) : Prop := (match res with
    | .error p => e = faultP p.1 p.2
    | .ok (F, k') => ∃ (k : Kv) (tv' : Value), F = .node 0 0 k.x k.l .nil ∧ e = .returned (.agg #[.string k.x.1, .int .i64 k.x.2, .slice k.a (lenF k.l) k.c]) ∧ RdBox w' B sg s k' tv' ∧ Lst b w' tv' (ks ++ [k])) ∧ Below B w w'
theorem owns_three {w : World} {base g n cap : Nat} {xs : List Value} {a b c : Value} (h : w.ownsRow base 28 3 (.slice (some ⟨g, 0, none⟩) n cap) n (xs ++ [a, b, c])) (x y z : Value) :
    (((w.setCell ⟨g, xs.length, none⟩ x).setCell ⟨g, xs.length + 1, none⟩ y).setCell ⟨g, xs.length + 2, none⟩ z).ownsRow base 28 3 (.slice (some ⟨g, 0, none⟩) n cap) n (xs ++ [x, y, z]) ∧ w.grownBy (((w.setCell ⟨g, xs.length, none⟩ x).setCell ⟨g, xs.length + 1, none⟩ y).setCell ⟨g, xs.length + 2, none⟩ z) (some g) := by
  have h1 := h.stored xs.length x
  have h2 := h1.1.stored (xs.length + 1) y
  have h3 := h2.1.stored (xs.length + 2) z
  refine ⟨?_, ?_⟩
  · have h4 := h3.1
    simpa [List.set_append] using h4
  · exact ⟨rfl, rfl, rfl, by simp, fun k hk hn => ((h3.2.block k (by simpa using hk) hn).trans (h2.2.block k (by simpa using hk) hn)).trans (h1.2.block k hk hn)⟩

theorem owns_slot {w : World} {base g n cap : Nat} {ks : List Kv} {zs : List Value} (h : w.ownsRow base 28 3 (.slice (some ⟨g, 0, none⟩) n cap) n (kvCells ks ++ zs)) (i : Nat) (hi : i < zs.length) : w.cell? ⟨g, ks.length * 3 + i, none⟩ = some (zs[i]) := by
  have := owns_at h (ks.length * 3 + i) (zs[i]) (by rw [← kvCells_len, List.getElem?_append_right (by omega)]; simp)
  rwa [Nat.zero_add] at this
theorem undrew {W w4 : World} {r : Option Nat} (h : W.drew.grownBy w4 r) : W.grownBy w4 r := ⟨h.os, h.tape, h.output, h.size, h.block⟩
theorem set_far {W : World} {g i q : Nat} (h : q ≠ g) (a : Value) : (W.setCell ⟨g, i, none⟩ a).heap[q]? = W.heap[q]? := Below.heap_setCell W ⟨g, i, none⟩ a q h
theorem sets_far3 {W : World} {g i j k q : Nat} (h : q ≠ g) (a b c : Value) : (((W.setCell ⟨g, i, none⟩ a).setCell ⟨g, j, none⟩ b).setCell ⟨g, k, none⟩ c).heap[q]? = W.heap[q]? :=
  (set_far h c).trans ((set_far h b).trans (set_far h a))
theorem set_low {n0 : Nat} {w W : World} {g i : Nat} (hb : Below n0 w W) (h : n0 ≤ g) (a : Value) : Below n0 w (W.setCell ⟨g, i, none⟩ a) := hb.trans ((Below.refl _ W).setCell (p := ⟨g, i, none⟩) h a)
/-- A list under way that has nothing to do with the block N. -/
structure LstX (N B : Nat) (W : World) (v : Value) (ks : List Kv) : Prop where
  row : W.ownsRow B 28 3 v ks.length (kvCells ks)
  far : v.ownBlock ≠ some N
  own : ∀ k ∈ ks, OwnTm false (fun q => (B ≤ q ∧ some q ≠ v.ownBlock) ∧ q ≠ N) W k.x k.a k.c k.l
theorem LstX.sets {N B : Nat} {W : World} {v : Value} {ks : List Kv} (h : LstX N B W v ks) (a b c : Value) : Lst B (((W.setCell ⟨N, 0, none⟩ a).setCell ⟨N, 1, none⟩ b).setCell ⟨N, 2, none⟩ c) v ks :=
  ⟨owns_block h.row (fun g hg => sets_far (fun e => h.far (by rw [hg, e])) _ _ _), fun k hk => ((h.own k hk).keep (fun q hq _ => sets_far hq.2 _ _ _)).mono (fun q _ hq => hq.1)⟩
/-- What is noted down behind the others. -/
theorem note_mem {w W3 w4 W5 : World} {B b g cap k' : Nat} {sg tv : Value} {s : ByteArray} {ks : List Kv} {k : Kv} {o : Obj} (hF : FrB B w W3) (hL : Lst b w tv ks) (hb : B < b) (hbw : b ≤ w.heap.size) (hm : OwnTm false (fun q => w.heap.size < q) W3 k.x k.a k.c k.l)
    (hgrow : (W3.alloc o).grownBy w4 tv.ownBlock) (hat : tv.ownBlock = some g ∨ g = W3.heap.size + 1) (hown : W5.ownsRow b 28 3 (.slice (some ⟨g, 0, none⟩) (ks.length + 1) cap) (ks.length + 1) (kvCells ks ++ Kv.cells k))
    (hbox : RdBox W5 B sg s k' (.slice (some ⟨g, 0, none⟩) (ks.length + 1) cap)) (hlow : Below B w4 W5) (hrest : ∀ q, q ≠ B → q ≠ g → W5.heap[q]? = w4.heap[q]?) :
    LstX w.heap.size b W5 (.slice (some ⟨g, 0, none⟩) (ks.length + 1) cap) (ks ++ [k]) ∧ Below B w W5 ∧ (∀ q, q < W3.heap.size → w.heap.size ≤ q → q ≠ B → W5.heap[q]? = W3.heap[q]?) := by
  have hgb : b ≤ g := (owns_cells hown rfl).1
  have hsz := hF.low.size
  have hB1 : ∀ q, q < W3.heap.size → some q ≠ tv.ownBlock → w4.heap[q]? = W3.heap[q]? := fun q hq hn => (hgrow.block q (by rw [World.size_alloc]; omega) hn).trans ((alloc_below0 W3 o).block q hq)
  have hold : ∀ q, tv.ownBlock = some q → q < w.heap.size := fun q hq => hL.lt hq
  have hgn : ∀ q, q < W3.heap.size → some q ≠ tv.ownBlock → q ≠ g := fun q hq hn e => by
    rcases hat with h | h
    · exact hn (by rw [h, e])
    · omega
  have hrest2 : ∀ q, q < W3.heap.size → some q ≠ tv.ownBlock → q ≠ B → W5.heap[q]? = W3.heap[q]? := fun q hq hn hqB => (hrest q hqB (hgn q hq hn)).trans (hB1 q hq hn)
  refine ⟨⟨?_, ?_, fun j hj => ?_⟩, ?_, fun q hq hwq hqB => hrest2 q hq (fun e => by have := hold q e.symm; omega) hqB⟩
  · rw [kvCells_append, List.length_append]
    have e : kvCells [k] = Kv.cells k := by simp [kvCells]
    rw [e]
    exact hown
  · show some g ≠ some w.heap.size
    intro e
    cases e
    rcases hat with h | h
    · have := hold _ h; omega
    · omega
  · show OwnTm false (fun q => (b ≤ q ∧ some q ≠ some g) ∧ q ≠ w.heap.size) W5 j.x j.a j.c j.l
    have h2 : OwnTm false (fun q => (b ≤ q ∧ some q ≠ tv.ownBlock) ∧ q ≠ w.heap.size) W3 j.x j.a j.c j.l := by
      rcases List.mem_append.1 hj with hj | hj
      · have h0 : OwnTm false (fun q => (b ≤ q ∧ some q ≠ tv.ownBlock) ∧ q ≠ w.heap.size) w j.x j.a j.c j.l := (hL.own j hj).mono (fun q hq hp => ⟨hp, by omega⟩)
        exact h0.keep (fun q hq hlt => hF.same q hlt (by have := hq.1.1; omega))
      · simp only [List.mem_singleton] at hj
        subst hj
        exact hm.mono (fun q _ hp => ⟨⟨by omega, fun e => by have := hold q e.symm; omega⟩, by omega⟩)
    have h4 : OwnTm false (fun q => ((b ≤ q ∧ some q ≠ tv.ownBlock) ∧ q ≠ w.heap.size) ∧ q ≠ g) W3 j.x j.a j.c j.l := h2.mono (fun q hq hp => ⟨hp, hgn q hq hp.1.2⟩)
    exact (h4.keep (fun q hq hlt => hrest2 q hlt hq.1.1.2 (by have := hq.1.1.1; omega))).mono (fun q _ hq => ⟨⟨hq.1.1.1, fun e => hq.2 (by cases e; rfl)⟩, hq.1.2⟩)
  · have h1 : Below B w W3 := hF.below (fun _ hk => hk ▸ Nat.le_refl _) (by omega)
    have h2 : Below B w (W3.alloc o) := h1.alloc (by omega) _
    have h3 : Below B w w4 := h2.grown hgrow (by rw [World.size_alloc]; omega) (fun q hq => by have := (owns_cells hL.row hq).1; omega)
    exact h3.trans hlow
/-- The two orders of the stores. -/
theorem note_both {w W3 w4 : World} {B b g cap k' : Nat} {sg tv tv4 : Value} {s : ByteArray} {ks : List Kv} {k z : Kv} {o : Obj} (hF : FrB B w W3) (hL : Lst b w tv ks) (hb : B < b) (hbw : b ≤ w.heap.size) (hm : OwnTm false (fun q => w.heap.size < q) W3 k.x k.a k.c k.l)
    (hgrow : (W3.alloc o).grownBy w4 tv.ownBlock) (hat : tv.ownBlock = some g ∨ g = W3.heap.size + 1) (hown : w4.ownsRow b 28 3 (.slice (some ⟨g, 0, none⟩) (ks.length + 1) cap) (ks.length + 1) (kvCells ks ++ Kv.cells z)) (hbox : RdBox w4 B sg s k' tv4) (W5 : World)
    (hW : W5 = ((((w4.setCell ⟨g, ks.length * 3, none⟩ (.string k.x.1)).setCell ⟨g, ks.length * 3 + 1, none⟩ (.int .i64 k.x.2)).setCell ⟨g, ks.length * 3 + 2, none⟩ (.slice k.a (lenF k.l) k.c)).setCell ⟨B, 3, none⟩ (.slice (some ⟨g, 0, none⟩) (ks.length + 1) cap)) ∨
      W5 = ((((w4.setCell ⟨B, 3, none⟩ (.slice (some ⟨g, 0, none⟩) (ks.length + 1) cap)).setCell ⟨g, ks.length * 3, none⟩ (.string k.x.1)).setCell ⟨g, ks.length * 3 + 1, none⟩ (.int .i64 k.x.2)).setCell ⟨g, ks.length * 3 + 2, none⟩ (.slice k.a (lenF k.l) k.c))) :
    RdBox W5 B sg s k' (.slice (some ⟨g, 0, none⟩) (ks.length + 1) cap) ∧ LstX w.heap.size b W5 (.slice (some ⟨g, 0, none⟩) (ks.length + 1) cap) (ks ++ [k]) ∧ Below B w W5 ∧ (∀ q, q < W3.heap.size → w.heap.size ≤ q → q ≠ B → W5.heap[q]? = W3.heap[q]?) := by
  have hgb : b ≤ g := (owns_cells hown rfl).1
  have hBg : B ≠ g := by omega
  suffices h : W5.ownsRow b 28 3 (.slice (some ⟨g, 0, none⟩) (ks.length + 1) cap) (ks.length + 1) (kvCells ks ++ Kv.cells k) ∧ RdBox W5 B sg s k' (.slice (some ⟨g, 0, none⟩) (ks.length + 1) cap) ∧ Below B w4 W5 ∧ (∀ q, q ≠ B → q ≠ g → W5.heap[q]? = w4.heap[q]?) by
    obtain ⟨h1, h2, h3, h4⟩ := h
    obtain ⟨n1, n2, n3⟩ := note_mem hF hL hb hbw hm hgrow hat h1 h2 h3 h4
    exact ⟨h2, n1, n2, n3⟩
  have hsets : ∀ W : World, Below B W (((W.setCell ⟨g, ks.length * 3, none⟩ (.string k.x.1)).setCell ⟨g, ks.length * 3 + 1, none⟩ (.int .i64 k.x.2)).setCell ⟨g, ks.length * 3 + 2, none⟩ (.slice k.a (lenF k.l) k.c)) := fun W => set_low (set_low (set_low (Below.refl _ W) (by omega) _) (by omega) _) (by omega) _
  rcases hW with rfl | rfl
  · have h1 := (owns_three hown (.string k.x.1) (.int .i64 k.x.2) (.slice k.a (lenF k.l) k.c)).1
    rw [kvCells_len] at h1
    refine ⟨owns_block h1 (fun g' hg' => ?_), ?_, set_low (hsets w4) (Nat.le_refl _) _, fun q hqB hqg => (set_far hqB _).trans (sets_far3 hqg _ _ _)⟩
    · cases hg'
      exact set_far hBg.symm _
    · have h2 : RdBox (((w4.setCell ⟨g, ks.length * 3, none⟩ (.string k.x.1)).setCell ⟨g, ks.length * 3 + 1, none⟩ (.int .i64 k.x.2)).setCell ⟨g, ks.length * 3 + 2, none⟩ (.slice k.a (lenF k.l) k.c)) B sg s k' tv4 := (sets_far3 hBg _ _ _).trans hbox
      exact h2.set3 _
  · have h0 : (w4.setCell ⟨B, 3, none⟩ (.slice (some ⟨g, 0, none⟩) (ks.length + 1) cap)).ownsRow b 28 3 (.slice (some ⟨g, 0, none⟩) (ks.length + 1) cap) (ks.length + 1) (kvCells ks ++ Kv.cells z) := owns_block hown (fun g' hg' => by cases hg'; exact set_far hBg.symm _)
    have h1 := (owns_three h0 (.string k.x.1) (.int .i64 k.x.2) (.slice k.a (lenF k.l) k.c)).1
    rw [kvCells_len] at h1
    exact ⟨h1, (sets_far3 hBg _ _ _).trans (hbox.set3 _), (set_low (Below.refl _ w4) (Nat.le_refl _) _).trans (hsets _), fun q hqB hqg => (sets_far3 hqg _ _ _).trans (set_far hqB _)⟩

theorem note_leaf {w W3 w4 : World} {B b g cap k' N : Nat} {sg tv tv4 : Value} {s : ByteArray} {ks : List Kv} {k z : Kv} {o : Obj} (hF : FrB B w W3) (hL : Lst b w tv ks) (hb : B < b) (hbw : b ≤ w.heap.size) (hm : OwnTm false (fun q => w.heap.size < q) W3 k.x k.a k.c k.l)
    (hgrow : (W3.alloc o).grownBy w4 tv.ownBlock) (hat : tv.ownBlock = some g ∨ g = W3.heap.size + 1) (hown : w4.ownsRow b 28 3 (.slice (some ⟨g, 0, none⟩) (ks.length + 1) cap) (ks.length + 1) (kvCells ks ++ Kv.cells z)) (hbox : RdBox w4 B sg s k' tv4) {W5 : World}
    (hW : W5 = ((((w4.setCell ⟨g, ks.length * 3, none⟩ (.string k.x.1)).setCell ⟨g, ks.length * 3 + 1, none⟩ (.int .i64 k.x.2)).setCell ⟨g, ks.length * 3 + 2, none⟩ (.slice k.a (lenF k.l) k.c)).setCell ⟨B, 3, none⟩ (.slice (some ⟨g, 0, none⟩) (ks.length + 1) cap)) ∨
      W5 = ((((w4.setCell ⟨B, 3, none⟩ (.slice (some ⟨g, 0, none⟩) (ks.length + 1) cap)).setCell ⟨g, ks.length * 3, none⟩ (.string k.x.1)).setCell ⟨g, ks.length * 3 + 1, none⟩ (.int .i64 k.x.2)).setCell ⟨g, ks.length * 3 + 2, none⟩ (.slice k.a (lenF k.l) k.c)))
    (hX : XBox W3 N k.x (.slice k.a (lenF k.l) k.c)) (hZ : XBox W3 w.heap.size (⟨#[]⟩, 0) (.slice none 0 0)) (hN : N < W3.heap.size) (hwN : w.heap.size < N) (hBw : B < w.heap.size) :
    ∃ g' cap', (Value.slice (some ⟨g, 0, none⟩) (ks.length + 1) cap) = .slice (some ⟨g', 0, none⟩) (ks.length + 1) cap' ∧ RdBox W5 B sg s k' (.slice (some ⟨g, 0, none⟩) (ks.length + 1) cap) ∧ LstX w.heap.size b W5 (.slice (some ⟨g, 0, none⟩) (ks.length + 1) cap) (ks ++ [k]) ∧ Below B w W5 ∧ XBox W5 N k.x (.slice k.a (lenF k.l) k.c) ∧ XBox W5 w.heap.size (⟨#[]⟩, 0) (.slice none 0 0) := by
  obtain ⟨e1, e2, e3, e4⟩ := note_both hF hL hb hbw hm hgrow hat hown hbox W5 hW
  exact ⟨g, cap, rfl, e1, e2, e3, (e4 N hN (by omega) (by omega)).trans hX, (e4 _ (by omega) (Nat.le_refl _) (by omega)).trans hZ⟩

set_option maxRecDepth 100000 in
set_option maxHeartbeats 4000000 in
theorem whole_rd {w0 : World} {B : Nat} {S : Option Addr} {n cap : Nat} {l : List Sym} {s : ByteArray} (hB0 : w0.heap.size ≤ B) (hs : s.size ≤ 800) (hS : SigAt w0 S n l) (b : Nat) (hb : B < b) (k : Nat) (tv : Value) (ks : List Kv) (w : World) (hk : k ≤ s.size) (hlen : ks.length ≤ k) (hB : RdBox w B (.slice S n cap) s k tv) (hL : Below w0.heap.size w0 w) (hT : Lst b w tv ks) (hbw : b ≤ w.heap.size) :
    Calls Try.prog 32 #[.pointer (some ⟨B, 0, none⟩)] w fun e w' => WholeEnd B (.slice S n cap) s b ks w (rdC s l false k) e w' := by
  have B0 := alloc_below0 w (.cells #[.string ⟨#[]⟩, .int .i64 0, .slice none 0 0] 28)
  have ht := term_all (tv := tv) (cap := cap) hB0 hs hS (s.size - k) k (w.alloc (.cells #[.string ⟨#[]⟩, .int .i64 0, .slice none 0 0] 28)) hk (Nat.le_refl _) (hB.below B0) (hL.trans (B0.mono hL.size))
  go_enter Try.func32, Try.ntmps32
  go_wp2_with fail
  cases hr : rdC s l false k with
  | error p =>
    rw [hr] at ht
    unfold TermEnd at ht
    dsimp only at ht
    unfold faultP at ht
    refine ht.mono ?_
    rintro e w2 ⟨rfl, hf2⟩
    go_wp2
    exact ⟨rfl, by rw [hr]; exact ⟨rfl, ((Fr.of_below B0).trans hf2).below (fun _ hk => hk ▸ Nat.le_refl _) (Nat.le_of_lt hB.lt)⟩⟩
  | ok q =>
    obtain ⟨G, k'⟩ := q
    have hk2 := rdC_to hk hr
    rw [hr] at ht
    unfold TermEnd at ht
    dsimp only at ht
    refine ht.mono ?_
    rintro e w2 ⟨⟨x, m, ta, tc, rfl, rfl, ho2, hrb2⟩, hf2⟩
    go_wp2_with fail
    have hz1 := hf2.low.size
    rw [World.size_alloc] at hz1
    obtain ⟨i0, hi, hz0, hz1', hz2⟩ := info_parts Try.info28
    have B2 := alloc_below0 w2 (.cells #[.string x.1, .int .i64 x.2, .slice ta (lenF m) tc] 28)
    have X3 : Hid (XBox (w2.alloc (.cells #[.string x.1, .int .i64 x.2, .slice ta (lenF m) tc] 28)) w2.heap.size x (.slice ta (lenF m) tc)) := World.alloc_heap_new w2 _
    have Z0 : XBox (w.alloc (.cells #[.string ⟨#[]⟩, .int .i64 0, .slice none 0 0] 28)) w.heap.size (⟨#[]⟩, 0) (.slice none 0 0) := World.alloc_heap_new w _
    have Z2 : XBox w2 w.heap.size (⟨#[]⟩, 0) (.slice none 0 0) := (hf2.same w.heap.size (by rw [World.size_alloc]; omega) (by have := hB.lt; omega)).trans Z0
    have Z3 := hid (Z2.below B2)
    have R3 := hid (hrb2.below B2)
    have F3 : Hid (FrB B w (w2.alloc (.cells #[.string x.1, .int .i64 x.2, .slice ta (lenF m) tc] 28))) := hid (((Fr.of_below B0).trans hf2).trans (Fr.of_below B2))
    have O3 : Hid (OwnTm false (fun q => w.heap.size < q) (w2.alloc (.cells #[.string x.1, .int .i64 x.2, .slice ta (lenF m) tc] 28)) x ta tc m) := hid ((ho2.mono (fun q _ hq => by rw [World.size_alloc] at hq; omega)).below B2)
    have LT := hid hT
    obtain ⟨a0, c0, htv, hcc, hcm, hrow0, hnone, hsome⟩ := row_of_owns hT.row
    have L3 : Hid (Lst b (w2.alloc (.cells #[.string x.1, .int .i64 x.2, .slice ta (lenF m) tc] 28)) tv ks) := hid (hT.fr F3.out hb)
    have hs3 : Hid ((w2.alloc (.cells #[.string x.1, .int .i64 x.2, .slice ta (lenF m) tc] 28)).heap.size = w2.heap.size + 1) := by show _ = _; rw [World.size_alloc]
    have hbB := hB.lt
    clear ht hf2 hrb2 ho2 Z0 Z2 B2 B0 hT hL hrow0 hnone hsome hB hcc hcm
    subst htv
    have HW : Hid (w.heap.size < w2.heap.size) := by show _ < _; omega
    have q3 := R3.out.c3; have f3 := R3.out.f (i := 3)
    have x0 := X3.out.c0; have x1 := X3.out.c1; have x2 := X3.out.c2
    generalize w2.alloc (.cells #[.string x.1, .int .i64 x.2, .slice ta (lenF m) tc] 28) = W3 at X3 Z3 R3 F3 O3 L3 hs3 q3 f3 x0 x1 x2 ⊢
    have BZ := alloc_below0 W3 (.cells #[.string ⟨#[]⟩, .int .i64 0, .slice none 0 0] 28)
    have x0' := (X3.out.below BZ).c0; have x1' := (X3.out.below BZ).c1; have x2' := (X3.out.below BZ).c2; have q3' := (R3.out.below BZ).c3
    clear BZ
    have hidx : ((ks.length : Nat) : Int) < (ks.length : Int) + 1 := by omega
    go_cut [13] (fun v wc => ∃ g cap', v = .slice (some ⟨g, 0, none⟩) (ks.length + 1) cap' ∧ RdBox wc B (.slice S n cap) s k' v ∧ LstX w.heap.size b wc v (ks ++ [⟨x, m, ta, tc⟩]) ∧ Below B w wc ∧ XBox wc w2.heap.size x (.slice ta (lenF m) tc) ∧ XBox wc w.heap.size (⟨#[]⟩, 0) (.slice none 0 0))
    case first =>
      go_region_law (refine step_append_lies _ (by rfl) (.tmp 9) (.tmp 12) 26 (by rfl) b 28 i0 _ 3 48 Try.underlying26 hi hz0 hz1' hz2 rfl (by decide) (.slice a0 ks.length c0) ks.length (kvCells ks) (by rfl) (owns_below L3.out.row ((Below.refl _ W3).alloc (Nat.le_refl _) _).drew) ⟨W3.heap.size, 0, none⟩ 1 1 (Kv.cells ⟨(⟨#[]⟩, 0), .nil, none, 0⟩) (by rfl) rfl (World.news_of_block (heap_alloc_new W3 _)) (kv_one _) (by decide) (by unfold maxLen; omega) (by omega) (by simp; have := hs3.out; have := HW.out; omega) _ rfl ?_; intro g4 cap4 w4 hown4 hgrow4 hat4 hlt4; have hg4 : b ≤ g4 := (owns_cells hown4 rfl).1; have hgB : ¬ g4 = B := (by omega); have hBg : ¬ B = g4 := fun e => hgB e.symm; have R4 : Hid (RdBox w4 B (.slice S n cap) s k' (.slice a0 ks.length c0)) := hid ((hgrow4.block B (by have := hs3.out; have := HW.out; simp; omega) (fun e => by have := (owns_cells L3.out.row e.symm).1; omega)).trans (R3.out.below (alloc_below0 W3 _).drew)); have r3 := R4.out.c3; have rf3 := R4.out.f (i := 3); have z0 : w4.cell? ⟨g4, ks.length * 3, none⟩ = some (.string ⟨#[]⟩) := owns_slot hown4 0 (by simp [Kv.cells]); have z1 : w4.cell? ⟨g4, ks.length * 3 + 1, none⟩ = some (.int .i64 0) := owns_slot hown4 1 (by simp [Kv.cells]); have z2 : w4.cell? ⟨g4, ks.length * 3 + 2, none⟩ = some (.slice none 0 0) := owns_slot hown4 2 (by simp [Kv.cells]); have y0 := hown4.frozenAt (ks.length * 3); have y1 := hown4.frozenAt (ks.length * 3 + 1); have y2 := hown4.frozenAt (ks.length * 3 + 2); have HO4 := hid hown4; have HG4 := hid (undrew hgrow4); have HA4 := hid hat4; clear hown4 hgrow4 hat4)
      all_goals (go_wp2_with fail; go_meet)
      all_goals
        refine note_leaf (k := ⟨x, m, ta, tc⟩) F3.out LT.out hb hbw O3.out HG4.out (HA4.out.imp id (fun e => by simpa using e)) HO4.out R4.out ?_ X3.out Z3.out (by have := hs3.out; omega) HW.out hbB
        first
          | (exact .inl (by with_reducible rfl))
          | (exact .inr (by with_reducible rfl))
    case rest =>
      obtain ⟨g, cap', rfl, hR, hLs, hlow, hX, hZ⟩ := hcut
      have HR := hid hR; have HLs := hid hLs; have HL := hid hlow; have HZ := hid hZ
      have u0 := hX.c0; have u1 := hX.c1; have u2 := hX.c2
      have z0 := hZ.c0; have z1 := hZ.c1; have z2 := hZ.c2
      have y0 := hZ.f (k := 0); have y1 := hZ.f (k := 1); have y2 := hZ.f (k := 2)
      clear hR hLs hlow hZ hX X3 Z3 R3 F3 O3 L3 LT
      go_wp2
      refine bodyPost_ret (results_cell_row rfl _ _ w.heap.size 28 #[.string x.1, .int .i64 x.2, .slice ta (lenF m) tc] (0, 0) _ rfl (HZ.out.all (x := x) _) Try.underlying28 rfl Try.size28) rfl ?_
      exact ⟨⟨⟨x, m, ta, tc⟩, _, rfl, rfl, (sets_far (by omega) _ _ _).trans HR.out, HLs.out.sets _ _ _⟩, sets_below HL.out (by omega) _ _ _⟩
end Go.Proofs.Ytkcbhbkldcebiaa
