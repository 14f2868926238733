/- A table of rows of vectors, in memory. -/
import Derived.Test.YtbdkogccjnmfoaaLkI
namespace Go.Proofs.Ytbdkogccjnmfoaa
open Go.RowKit Go.Shelf

theorem info23 : (Try.prog.info? 23).map (fun i => (i.zero, i.size, i.bytes)) = some (some (.slice none 0 0), 1, 24) := by kernel_rfl
/-- A vector more, and where the row lies then. -/
theorem run_appX2 (ty base : Nat) (v : Value) (vs : List Vc) (x : Vc) (w : World) (hR : XRow w base v vs) (b : Nat) (hb : w.heap[b]? = some (.cells #[vcV x] 27 (0, 0))) (hx : VcAt w x) (hn : vs.length + 1 ≤ 1000000000000) (hbase : base ≤ w.heap.size) :
    ∃ v' w', (Builtin.append_ #[23, 23] ty #[v, .slice (some ⟨b, 0, none⟩) 1 1]).run Try.prog w = .ok v' w' ∧ XRow w' base v' (vs ++ [x]) ∧ Fr (fun q => v.ownBlock = some q) w w' ∧ (v'.ownBlock = v.ownBlock ∨ v'.ownBlock = some w.heap.size) := by
  obtain ⟨i0, hi0, hz0, hz1, hz2⟩ := info_parts info27
  obtain ⟨v', w', hr, h2, h3, _, h5⟩ := run_append_own_at (P := Try.prog) w base 23 ty 27 i0 _ 1 24 Try.underlying23 hi0 hz0 hz1 hz2 rfl (by decide) v vs.length (vs.map vcV) hR.row ⟨b, 0, none⟩ 1 1 [vcV x] rfl (fun j u hj => by
    match j, hj with
    | 0, hj => cases hj; exact cell_box hb rfl) (fun u hu => by rw [List.mem_singleton.1 hu]; rfl) (by unfold maxLen; omega) (by omega) hbase
  have hf := fr_grown h3
  have keep : ∀ y, VcAt w y → VcAt w' y := fun y hy => hy.same (by
    obtain ⟨cur, h1, _⟩ := hy.blk
    refine hf.same _ (Array.getElem?_eq_some_iff.1 h1).1 (fun e => ?_)
    obtain ⟨cur', h1', _⟩ := own_blk hR.row e
    exact ne_type h1 h1' (by decide) rfl)
  refine ⟨v', w', hr, ⟨by rw [List.length_append, List.map_append]; exact h2, fun y hy => ?_⟩, hf, h5⟩
  rcases List.mem_append.1 hy with hy | hy
  · exact keep y (hR.vec y hy)
  · rw [List.mem_singleton.1 hy]
    exact keep x hx
/-- A table. -/
structure ByAt (W : World) (base : Nat) (bv : Value) (Ts : List (Value × List Vc)) : Prop where
  row : W.ownsRow base 23 1 bv Ts.length (Ts.map Prod.fst)
  each : ∀ t ∈ Ts, XRow W base t.1 t.2
  once : Ts.Pairwise (fun s t => ∀ q, s.1.ownBlock = some q → t.1.ownBlock ≠ some q)
theorem ByAt.nil (W : World) (base : Nat) : ByAt W base (.slice none 0 0) [] := ⟨World.ownsRow_nil _ _ _ _, by simp, List.Pairwise.nil⟩
theorem ByAt.below {W W' : World} {base : Nat} {bv : Value} {Ts : List (Value × List Vc)} (h : ByAt W base bv Ts) (hb : Below W.heap.size W W') : ByAt W' base bv Ts :=
  ⟨own_same h.row (fun q hq => by obtain ⟨cur, h1, _⟩ := own_blk h.row hq; exact hb.block q (Array.getElem?_eq_some_iff.1 h1).1), fun t ht => (h.each t ht).below hb, h.once⟩
theorem ByAt.form {W : World} {base : Nat} {bv : Value} {Ts : List (Value × List Vc)} (h : ByAt W base bv Ts) : ∃ q c, bv = .slice q Ts.length c := by
  rcases h.row.2 with ⟨h1, h2⟩ | ⟨g, cap, cur, h1, _⟩
  · exact ⟨none, 0, by rw [h1, h2]⟩
  · exact ⟨_, _, h1⟩
theorem ByAt.cell {W : World} {base n : Nat} {q : Option Addr} {c : Nat} {Ts : List (Value × List Vc)} (h : ByAt W base (.slice q n c) Ts) (i : Nat) (hi : i < Ts.length) : ∃ g, q = some ⟨g, 0, none⟩ ∧ base ≤ g ∧ W.cell? ⟨g, i, none⟩ = some Ts[i].1 ∧ W.frozen? ⟨g, i, none⟩ = false := by
  rcases h.row.2 with ⟨_, h0⟩ | ⟨g, cap, cur, h1, h2, h3, h4, h5, h6, h7⟩
  · omega
  · injection h1 with h1 _ hc
    subst h1 hc
    have e1 : (cur.toList.take (Ts.length * 1))[i]? = (Ts.map Prod.fst)[i]? := by rw [h7]
    rw [List.getElem?_take_of_lt (by omega), Array.getElem?_toList, List.getElem?_map, List.getElem?_eq_getElem hi] at e1
    exact ⟨g, rfl, h2, cell_box h3 e1, free_box h3⟩
theorem drewN_one (W : World) : W.drewN 1 = W.drew := rfl
/-- One empty row more. -/
theorem ByAt.grow {W : World} {base : Nat} {bv : Value} {Ts : List (Value × List Vc)} (h : ByAt W base bv Ts) (hbase : base ≤ W.heap.size) (hn : Ts.length + 1 ≤ 1000) :
    ∃ bv' W', (Builtin.append_ #[57, 57] 57 #[bv, .slice (some ⟨W.heap.size, 0, none⟩) 1 1]).run Try.prog (W.alloc (.cells #[.slice none 0 0] 23)) = .ok bv' W' ∧ ByAt W' base bv' (Ts ++ [(.slice none 0 0, [])]) ∧ Below base W W' := by
  obtain ⟨i0, hi0, hz0, hz1, hz2⟩ := info_parts info23
  have b1 := alloc_below0 W (.cells #[.slice none 0 0] 23)
  have hh := h.below b1
  obtain ⟨v', w', hr, h2, h3, _, _⟩ := run_append_own_at (P := Try.prog) (W.alloc (.cells #[.slice none 0 0] 23)) base 57 57 23 i0 _ 1 24 Try.underlying57 hi0 hz0 hz1 hz2 rfl (by decide) bv Ts.length (Ts.map Prod.fst) hh.row ⟨W.heap.size, 0, none⟩ 1 1 [.slice none 0 0] rfl (fun j u hj => by
    match j, hj with
    | 0, hj => cases hj; exact cell_box (World.alloc_heap_new W _) rfl) (fun u hu => by rw [List.mem_singleton.1 hu]; rfl) (by unfold maxLen; omega) (by omega) (Nat.le_trans hbase b1.size)
  have hf := fr_grown h3
  have hA : ∀ k, bv.ownBlock = some k → base ≤ k := fun k hk => (own_blk hh.row hk).choose_spec.2
  refine ⟨v', w', hr, ⟨by rw [List.length_append, List.map_append]; exact h2, fun t ht => ?_, ?_⟩, (b1.mono hbase).trans (hf.below hA (Nat.le_trans hbase b1.size))⟩
  · rcases List.mem_append.1 ht with ht | ht
    · have hx := hh.each t ht
      refine hx.keep (fun q hq => ?_) (fun x hx' => ?_)
      · obtain ⟨cur, k1, _⟩ := own_blk hx.row hq
        refine hf.same q (Array.getElem?_eq_some_iff.1 k1).1 (fun e => ?_)
        obtain ⟨cur', k2, _⟩ := own_blk hh.row e
        exact ne_type k1 k2 (by decide) rfl
      · obtain ⟨cur, k1, _⟩ := (hx.vec x hx').blk
        refine hf.same _ (Array.getElem?_eq_some_iff.1 k1).1 (fun e => ?_)
        obtain ⟨cur', k2, _⟩ := own_blk hh.row e
        exact ne_type k1 k2 (by decide) rfl
    · rw [List.mem_singleton.1 ht]
      exact XRow.nil _ _
  · refine List.pairwise_append.2 ⟨h.once, List.pairwise_singleton _ _, fun s _ t ht q _ e => ?_⟩
    rw [List.mem_singleton.1 ht] at e
    cases e
/-- A vector more in one of the rows. -/
theorem ByAt.put {W : World} {base n c g : Nat} {Ts : List (Value × List Vc)} (h : ByAt W base (.slice (some ⟨g, 0, none⟩) n c) Ts) (hn : Ts.length = n) (hbase : base ≤ W.heap.size) (m : Nat) (hm : m < Ts.length) (x : Vc) (hx : VcAt W x) (hl : Ts[m].2.length + 1 ≤ 1000000) :
    ∃ r' W', (Builtin.append_ #[23, 23] 23 #[Ts[m].1, .slice (some ⟨W.heap.size, 0, none⟩) 1 1]).run Try.prog (W.alloc (.cells #[vcV x] 27)).drew = .ok r' W' ∧ (∃ u, W'.cell? ⟨g, m, none⟩ = some u) ∧ W'.frozen? ⟨g, m, none⟩ = false ∧ Below base W W' ∧
      ByAt (W'.setCell ⟨g, m, none⟩ r') base (.slice (some ⟨g, 0, none⟩) n c) (Ts.set m (r', Ts[m].2 ++ [x])) ∧ Below base W (W'.setCell ⟨g, m, none⟩ r') := by
  have b1 := (alloc_below0 W (.cells #[vcV x] 27)).drew
  have hh := h.below b1
  have hmem := List.getElem_mem hm
  have hrm := hh.each _ hmem
  have hs : (W.alloc (.cells #[vcV x] 27)).drew.heap.size = W.heap.size + 1 := World.size_alloc W _
  obtain ⟨r', W', hr, h2, h3, h4⟩ := run_appX2 23 base Ts[m].1 Ts[m].2 x _ hrm W.heap.size (World.alloc_heap_new W _) (by
    obtain ⟨cur, k1, _⟩ := hx.blk
    exact hx.same (b1.block _ (Array.getElem?_eq_some_iff.1 k1).1)) (by omega) (by rw [hs]; omega)
  have hA : ∀ k, Ts[m].1.ownBlock = some k → base ≤ k := fun k hk => (own_blk hrm.row hk).choose_spec.2
  have hb2 : Below base W W' := (b1.mono hbase).trans (h3.below hA (by rw [hs]; omega))
  obtain ⟨cur, hg, hgb⟩ := own_blk hh.row (q := g) rfl
  have hgne : ∀ q t, t ∈ Ts → t.1.ownBlock = some q → q ≠ g := fun q t ht e => by
    obtain ⟨c1, k1, _⟩ := own_blk (hh.each t ht).row e
    exact ne_type k1 hg (by decide)
  have hg' : W'.heap[g]? = some (.cells cur 23 (0, 0)) := (h3.same g (Array.getElem?_eq_some_iff.1 hg).1 (fun e => hgne g _ hmem e rfl)).trans hg
  have hrow' : W'.ownsRow base 23 1 (.slice (some ⟨g, 0, none⟩) n c) n (Ts.map Prod.fst) := by
    have h1 := hh.row
    rw [hn] at h1
    exact own_same h1 (fun q hq => by
      have : g = q := Option.some.inj hq
      subst this
      rw [hg', hg])
  have hcell : ∃ u, W'.cell? ⟨g, m, none⟩ = some u := by
    rcases hrow'.2 with ⟨h0, _⟩ | ⟨g1, cap, cur1, k1, k2, k3, k4, k5, k6, k7⟩
    · cases h0
    · injection k1 with k1 _ _
      injection k1 with k1
      injection k1 with k1 _ _
      subst k1
      exact ⟨_, cell_box k3 (Array.getElem?_eq_getElem (show m < cur1.size by omega))⟩
  have hvk : ∀ y, VcAt W' y → VcAt (W'.setCell ⟨g, m, none⟩ r') y := fun y hy => by
    obtain ⟨cu, k1, _⟩ := hy.blk
    exact hy.same (set_far (ne_type k1 hg' (by decide)) _)
  have hxk : ∀ v us, XRow W' base v us → XRow (W'.setCell ⟨g, m, none⟩ r') base v us := fun v us hv => by
    refine hv.keep (fun q hq => ?_) (fun y hy => ?_)
    · obtain ⟨c1, k1, _⟩ := own_blk hv.row hq
      exact set_far (ne_type k1 hg' (by decide)) _
    · obtain ⟨c1, k1, _⟩ := (hv.vec y hy).blk
      exact set_far (ne_type k1 hg' (by decide)) _
  have hold : ∀ i (hi : i < Ts.length), i ≠ m → XRow W' base Ts[i].1 Ts[i].2 := fun i hi hne => by
    have hv := hh.each _ (List.getElem_mem hi)
    refine hv.keep (fun q hq => ?_) (fun y hy => ?_)
    · obtain ⟨c1, k1, _⟩ := own_blk hv.row hq
      refine h3.same q (Array.getElem?_eq_some_iff.1 k1).1 (fun e => ?_)
      rcases Nat.lt_or_gt_of_ne hne with h' | h'
      · exact List.pairwise_iff_getElem.1 h.once i m hi hm h' q hq e
      · exact List.pairwise_iff_getElem.1 h.once m i hm hi h' q e hq
    · obtain ⟨c1, k1, _⟩ := (hv.vec y hy).blk
      refine h3.same _ (Array.getElem?_eq_some_iff.1 k1).1 (fun e => ?_)
      obtain ⟨c2, k2, _⟩ := own_blk hrm.row e
      exact ne_type k1 k2 (by decide) rfl
  have hfresh : ∀ i (hi : i < Ts.length), i ≠ m → ∀ q, Ts[i].1.ownBlock = some q → r'.ownBlock ≠ some q := fun i hi hne q hq e => by
    obtain ⟨c1, k1, _⟩ := own_blk (h.each _ (List.getElem_mem hi)).row hq
    have hlt := (Array.getElem?_eq_some_iff.1 k1).1
    rcases h4 with h4 | h4
    · rw [h4] at e
      rcases Nat.lt_or_gt_of_ne hne with h' | h'
      · exact List.pairwise_iff_getElem.1 h.once i m hi hm h' q hq e
      · exact List.pairwise_iff_getElem.1 h.once m i hm hi h' q e hq
    · rw [h4] at e
      have := Option.some.inj e
      omega
  refine ⟨r', W', hr, hcell, free_box hg', hb2, ⟨?_, fun t ht => ?_, ?_⟩, hb2.setCell (p := ⟨g, m, none⟩) hgb _⟩
  · rw [List.length_set, hn, List.map_set]
    exact own_set1 hrow' m r'
  · obtain ⟨i, hi, rfl⟩ := List.getElem_of_mem ht
    rw [List.length_set] at hi
    rw [List.getElem_set]
    by_cases him : m = i
    · rw [if_pos him]
      exact hxk _ _ h2
    · rw [if_neg him]
      exact hxk _ _ (hold i hi (fun e => him e.symm))
  · refine List.pairwise_iff_getElem.2 (fun i j hi hj hij q hq => ?_)
    rw [List.length_set] at hi hj
    rw [List.getElem_set] at hq ⊢
    by_cases him : m = i
    · rw [if_pos him] at hq
      rw [if_neg (by omega)]
      intro e
      exact hfresh j hj (by omega) q e hq
    · rw [if_neg him] at hq
      by_cases hjm : m = j
      · rw [if_pos hjm]
        exact hfresh i hi (by omega) q hq
      · rw [if_neg hjm]
        exact List.pairwise_iff_getElem.1 h.once i j hi hj hij q hq
end Go.Proofs.Ytbdkogccjnmfoaa
