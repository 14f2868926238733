/- What Vars of package terms answers of any term. -/
import Derived.Test.YtmhdapgiealmfabTSize
import Derived.Test.YtmhdapgiealmfabShelfS
import Derived.Lib.OwnBridge
import Derived.Sort.OwnSorted
namespace Go.Proofs.Ytmhdapgiealmfab
open Go.RowKit Go.Shelf Go.Deep Go.Sort

attribute [local go_sem] Oper.semAt_some

theorem Try.info9 : (Try.prog.info? 9).map (fun i => (i.zero, i.size, i.bytes)) = some (some (.string ⟨#[]⟩), 1, 16) := by kernel_rfl

/-- The names of the variables at these places, in their order. -/
def namesP : List Pl → List (List UInt8)
  | [] => []
  | p :: r => if noName p.2.1.1 then namesP r else p.2.1.1.data.toList :: namesP r
theorem names_append : ∀ a b : List Pl, namesP (a ++ b) = namesP a ++ namesP b
  | [], b => rfl
  | p :: r, b => by
    simp only [List.cons_append, namesP, names_append r b]
    split <;> rfl
theorem names_len : ∀ a : List Pl, (namesP a).length ≤ a.length
  | [] => Nat.le_refl _
  | p :: r => by
    have := names_len r
    simp only [namesP]
    split <;> simp <;> omega
def sortL (l : List (List UInt8)) : List (List UInt8) := l.mergeSort fun x y => decide (x ≤ y)
/-- The variables: rising, each once. -/
def varsL (x : ByteArray × Int) (l : Fo) : List (List UInt8) := Lib.compact (sortL (namesP (placesT [] x l)))

theorem owns_mv {B0 : Nat} {W W' : World} {base e size k : Nat} {v : Value} {xs : List Value} (h : W.ownsRow base e size v k xs) (hm : Mv B0 W W') (h3 : e ≠ 3) (h4 : e ≠ 25) : W'.ownsRow base e size v k xs :=
  owns_block h (fun g hg => by obtain ⟨_, cur, hc⟩ := owns_cells h hg; rw [hc]; exact hm.cells _ _ _ _ hc h3 h4)
/-- Something behind a list of the caller's, whose box has another type than what the iterator keeps. -/
theorem Leaves.appended {n0 b B base k : Nat} {e : El} {W w1 : World} {v u : Value} {xs : List Value} {o : Obj} (h : Handed b e W) (hr : W.ownsRow base 9 1 v k xs) (hB : Boxed W B 37 v) (hg : (W.alloc o).grownBy w1 v.ownBlock) (hb : Below n0 W (w1.setCell ⟨B, 0, none⟩ u)) :
    Leaves n0 e W (w1.setCell ⟨B, 0, none⟩ u) :=
  ⟨hb, fun k cs t fr hk ht => by
    have ht' : t ≠ 9 ∧ t ≠ 37 := by
      rcases ht with rfl | rfl | rfl | rfl | hp
      · decide
      · decide
      · decide
      · decide
      · obtain ⟨_, cur, hc⟩ := owns_cells h.row hp.symm
        rw [hk] at hc; cases hc; decide
    have hlt := (Array.getElem?_eq_some_iff.1 hk).1
    rw [Below.heap_setCell w1 ⟨B, 0, none⟩ u k (fun e' => by
      have e'' : k = B := e'
      subst e''
      rw [show W.heap[k]? = _ from hB] at hk; cases hk; exact ht'.2 rfl)]
    rw [hg.block k (by rw [World.size_alloc]; omega) (fun e' => by
      obtain ⟨_, cur, hc⟩ := owns_cells hr e'.symm
      rw [hk] at hc; cases hc; exact ht'.1 rfl)]
    exact (Below.heap_alloc _ _ _ hlt).trans hk⟩

set_option maxRecDepth 100000 in
set_option maxHeartbeats 4000000 in
theorem vars_any (x : ByteArray × Int) (l : Fo) (a : Option Addr) (c : Nat) (w : World) (hT : TmAt w x a c l) (hM : (nodesF l + 2) * 16 ≤ 140737488355328) :
    Calls Try.prog 10 #[.agg #[.string x.1, .int .i64 x.2, .slice a (lenF l) c]] w fun e w' => ∃ v, e = .returned v ∧ w'.ownsRow w.heap.size 9 1 v (varsL x l).length ((varsL x l).map encStr) ∧ Below w.heap.size w w' := by
  refine (callsIn_wide (n := 6)).1 ?_
  have h1 : 1 ≤ 6 := by omega
  obtain ⟨i0, hi, hz0, hz1, hz2⟩ := info_parts Try.info9
  refine callsIn_of_wp_marks Try.func10 rfl trivial ?_ rfl
  simp only [Try.ntmps10, List.size_toArray, List.length_cons, List.length_nil, Nat.reduceAdd, Nat.reduceSub, Array.replicate_succ, Array.replicate_zero, List.push_toArray, List.append_toArray, List.nil_append, List.cons_append]
  gi_wp2_with fail
  refine ⟨trivial, ?_⟩
  refine (callsIn_wide.2 (places_any x a (lenF l) c _)).mono ?_
  rintro e w' ⟨rfl, rfl⟩
  gi_wp2
  have bL := (Boxed.new (w.alloc (.cells #[.string x.1, .int .i64 x.2, .slice a (lenF l) c] 24)) 37 (.slice none 0 0)).alloc (.cells #[.string x.1, .int .i64 x.2, .slice a (lenF l) c] 24)
  have bT := TBox.new ((w.alloc (.cells #[.string x.1, .int .i64 x.2, .slice a (lenF l) c] 24)).alloc (.cells #[.slice none 0 0] 37)) x a (lenF l) c
  simp only [World.size_alloc] at bL bT
  have hB0 : Below w.heap.size w (((w.alloc (.cells #[.string x.1, .int .i64 x.2, .slice a (lenF l) c] 24)).alloc (.cells #[.slice none 0 0] 37)).alloc (.cells #[.string x.1, .int .i64 x.2, .slice a (lenF l) c] 24)) := (((Below.refl _ w).alloc (Nat.le_refl _) _).alloc (by simp) _).alloc (by simp; omega) _
  have hsz : (((w.alloc (.cells #[.string x.1, .int .i64 x.2, .slice a (lenF l) c] 24)).alloc (.cells #[.slice none 0 0] 37)).alloc (.cells #[.string x.1, .int .i64 x.2, .slice a (lenF l) c] 24)).heap.size = w.heap.size + 3 := by simp
  obtain ⟨W0, hW0⟩ : ∃ W0, ((w.alloc (.cells #[.string x.1, .int .i64 x.2, .slice a (lenF l) c] 24)).alloc (.cells #[.slice none 0 0] 37)).alloc (.cells #[.string x.1, .int .i64 x.2, .slice a (lenF l) c] 24) = W0 := ⟨_, rfl⟩
  rw [hW0] at bL bT hB0 hsz ⊢
  clear hW0
  refine range_own (gf := 24) (lb := #[.pointer (some ⟨w.heap.size + 1 + 1, 0, none⟩)]) rfl (enters_of Try.func24 (by kernel_rfl) rfl)
    (places1_seq w W0 (nodesF l + 1) (w.heap.size + 1 + 1) x l a c hT bT hB0 (by omega)) (Below.refl _ _) (fun _ => rfl)
    (fun _ _ _ h hc => h.cl hc) (fun _ _ _ hc => Leaves.of_cl hc (by omega)) (fun _ _ _ _ h k => h.trans k)
    (fun pre W => ((∃ v, Boxed W (w.heap.size + 1) 37 v ∧ W.ownsRow w.heap.size 9 1 v (namesP (pre.map El.info)).length ((namesP (pre.map El.info)).map encStr)) ∧ Below w.heap.size w W) ∧ pre.length ≤ nodesF l + 1)
    (fun _ _ _ => False)
    (fun _ _ _ ⟨⟨⟨v, h1, h2⟩, h3⟩, h4⟩ hm => ⟨⟨⟨v, boxed_mv h1 hm (by omega), owns_mv h2 hm (by decide) (by decide)⟩, below_mv h3 hm (by omega)⟩, h4⟩)
    (fun _ _ _ _ h _ => h) (fun _ _ h => h.2) ⟨⟨⟨_, bL, World.ownsRow_nil _ _ _ _⟩, hB0⟩, by simp⟩
    (fun e a' W => ∃ Bx, TBox W Bx e.x e.a (lenF e.l) e.c ∧ a' = { tmps := #[.agg #[.string x.1, .int .i64 x.2, .slice a (lenF l) c], .pointer (some ⟨w.heap.size, 0, none⟩), .slice none 0 0, .pointer (some ⟨w.heap.size + 1, 0, none⟩), undef, .pointer (some ⟨Bx, 0, none⟩), .agg #[.string x.1, .int .i64 x.2, .slice a (lenF l) c], .func (.func 24) #[] #[.pointer (some ⟨w.heap.size + 1 + 1, 0, none⟩)], e.pv, .agg #[.string e.x.1, .int .i64 e.x.2, .slice e.a (lenF e.l) e.c], undef, undef, undef, undef, undef, undef, undef, undef, undef, undef, undef, undef], defers := [] })
    (fun _ _ _ _ ⟨Bx, h, k⟩ hc => ⟨Bx, h.cl hc, k⟩) ?assign ?body ?done ?stop
  case assign =>
    rintro pre e W K _ _ hK m
    simp only [El.encs]
    gi_wp2
    exact hK _ _ ((Below.refl _ _).alloc (Nat.le_refl _) _) ⟨_, TBox.new W e.x e.a (lenF e.l) e.c, by simp⟩
  case body =>
    rintro pre e a' W _ ⟨⟨⟨v, bl, hrow⟩, hB⟩, hl⟩ hF ⟨Bx, bx, rfl⟩ hlt m
    have c0 := bx.c0
    cases ht : e.x.1.toList.isEmpty
    · have hnm := names_len (pre.map El.info)
      rw [List.length_map] at hnm
      have hmax : maxLen = 9223372036854775807 := rfl
      have cl := bl.cell
      have hBw := hB.size
      have hone : ∀ u ∈ [Value.string e.x.1], u.oneCell' = true := by intro u hu; simp at hu; subst hu; rfl
      gi_wp2_with (gi_at_builtin; refine wpListIn_append_own _ rfl _ _ 37 rfl w.heap.size 9 i0 (.string ⟨#[]⟩) 1 16 Try.underlying37 hi hz0 hz1 hz2 rfl (by decide) v (namesP (pre.map El.info)).length ((namesP (pre.map El.info)).map encStr) rfl (hrow.alloc _) ⟨W.heap.size, 0, none⟩ 1 1 [.string e.x.1] rfl rfl (World.news_of_block (heap_alloc_new W _)) hone (by omega) (by omega) (by simp; omega) ?_; intro v' w1 hown' hgrow _; obtain ⟨g', cap', rfl⟩ := ownsRow_succ hown'; obtain ⟨hv1, hv2, hr2, hk2, hb2⟩ := bl.appended (by decide) hrow hB.size (by omega) hown' hgrow; have hc1 := hv1.cell; have hf1 := hv1.frozen)
      refine ⟨hk2.from _, Leaves.appended hF hrow bl hgrow hb2, ⟨⟨_, hv2, ?_⟩, hB.trans hb2⟩, by simp; omega⟩
      rw [List.map_append, names_append]
      simpa [namesP, El.info, noName, ht] using hr2
    · gi_wp2
      refine ⟨KeepsFrom.refl _ _, Leaves.of_cl (Cl.of_below (Below.refl _ _) (Nat.le_refl _)) hB.size, ⟨⟨v, bl, ?_⟩, hB⟩, by simp; omega⟩
      rw [List.map_append, names_append]
      simpa [namesP, El.info, noName, ht] using hrow
  case done =>
    rintro ys W hS ⟨⟨⟨v, bl, hrow⟩, hB⟩, _⟩ hK
    rw [hS] at hrow
    rw [hsz] at hK
    have cl := bl.cell
    have hlen := names_len (placesT [] x l)
    rw [placesT, List.length_cons, places_len] at hlen
    obtain ⟨ss, hss⟩ : ∃ ss, namesP (placesT [] x l) = ss := ⟨_, rfl⟩
    have HV : Hid (varsL x l = Lib.compact (sortL ss)) := by show _ = _; rw [varsL, hss]
    rw [placesT] at hss
    rw [placesT, hss] at hrow
    rw [hss] at hlen
    clear hss hS
    rcases hrow.2 with ⟨rfl, hn0⟩ | ⟨g, cap, cur, rfl, hbase, hb, hnc, hcm, hcs, hct⟩
    · obtain rfl : ss = [] := List.length_eq_zero_iff.1 hn0
      gi_wp2_with fail
      refine ⟨trivial, ?_⟩
      refine (callsIn_wide.2 (Try.slices_Sort_string_none _ _ _)).mono ?_
      rintro e w2 ⟨rfl, rfl⟩
      gi_wp2_with fail
      refine ⟨trivial, ?_⟩
      refine (callsIn_wide.2 (Try.slices_Compact_string_empty _ _ _)).mono ?_
      rintro e w3 ⟨rfl, rfl⟩
      gi_wp2
      refine ⟨by simp, .inl ⟨_, _, rfl, run_takeDeferred hK, ?_⟩⟩
      exact ⟨_, results_tmp rfl _ _ _, _, rfl, by rw [HV.out, show Lib.compact (sortL []) = [] by simp [sortL, Lib.compact, Lib.compactUpTo]]; exact World.ownsRow_nil _ _ _ _, hB.trans (below_putObj _ (by omega) _)⟩
    · have hsl : (sortL ss).length = ss.length := by simp [sortL]
      have hgb : W.grownBy W (some g) := ⟨rfl, rfl, rfl, Nat.le_refl _, fun _ _ _ => rfl⟩
      have hg1 : w.heap.size + 1 ≠ g := fun e' => by
        subst e'
        rw [show W.heap[w.heap.size + 1]? = _ from bl] at hb
        cases hb
      gi_wp2_with fail
      refine ⟨trivial, ?_⟩
      refine (callsIn_wide.2 (Try.slices_Sort_string g 0 cap ss _ (holds_of_block hb (by simpa using hct)) (Array.getElem?_eq_some_iff.1 hb).1 (by omega))).mono ?_
      rintro e w2 ⟨rfl, q, os, hw2⟩
      have ho2 : w2.ownsRow w.heap.size 9 1 (.slice (some ⟨g, 0, none⟩) ss.length cap) ss.length ((sortL ss).map encStr) := by rw [hw2]; exact ownsRow_sorted hsl hbase hb hnc hcm hcs
      have hgr : W.grownBy w2 (some g) := by rw [hw2]; exact grownBy_sorted _
      clear hw2
      have bl2 := bl.kept hgr (by simpa using hg1)
      have cl2 := bl2.cell
      have hB2 : RowKit.Below w.heap.size w w2 := hB.grown hgr hB.size (fun k e' => by cases e'; exact hbase)
      have hK2 : w2.heap[w.heap.size + 3]? = some (.deferred (some [])) := (hgr.block _ (Array.getElem?_eq_some_iff.1 hK).1 (fun e' => by
        cases e'
        rw [hb] at hK
        cases hK)).trans hK
      obtain ⟨g3, cap3, hv3, _, hlt3, hn3, hm3, hz3, hH3⟩ := Lib.holds_of_ownsRow ho2 (by simp)
      cases hv3
      have hcp := Try.slices_Compact_string g 0 cap (sortL ss) w2 hH3 (by omega) (by omega)
      rw [hsl] at hcp
      clear hH3 hgr hb hct
      gi_wp2_with fail
      refine ⟨trivial, ?_⟩
      refine (callsIn_wide.2 hcp).mono ?_
      rintro e w3 ⟨rfl, q2, hw3⟩
      have hcl := Lib.compact_length_le (sortL ss)
      have ho3 : w3.ownsRow w.heap.size 9 1 (.slice (some ⟨g, 0, none⟩) (Lib.compact (sortL ss)).length cap) (Lib.compact (sortL ss)).length ((Lib.compact (sortL ss)).map encStr) := by
        rw [hw3]
        have := Lib.ownsRow_putRow (q := q2) (k := (Lib.compact (sortL ss)).length) (ys := Lib.compact (sortL ss) ++ List.replicate (ss.length - (Lib.compact (sortL ss)).length) []) ho2 (by simp; omega) (by omega)
        rw [List.take_left] at this
        exact this
      have hB3 : RowKit.Below w.heap.size w w3 := by rw [hw3]; exact Lib.below_putRow hB2 hbase
      have hK3 : w3.heap[w.heap.size + 3]? = some (.deferred (some [])) := by
        rw [hw3]
        have : g ≠ w.heap.size + 3 := fun e' => by
          obtain ⟨_, cur', hc'⟩ := owns_cells ho2 (g := g) rfl
          rw [e'] at hc'
          rw [hK2] at hc'
          cases hc'
        simp [putRow, mapBlock, Sort.ahead, Array.getElem?_modify, this, hK2]
      clear hw3 hcp
      gi_wp2
      refine ⟨by simp, .inl ⟨_, _, rfl, run_takeDeferred hK3, ?_⟩⟩
      exact ⟨_, results_tmp rfl _ _ _, _, rfl, by rw [HV.out]; exact ownsRow_putObj ho3 _ hK3 rfl, hB3.trans (below_putObj _ (by omega) _)⟩
  case stop =>
    rintro c pre W _ h _
    exact h.elim
end Go.Proofs.Ytmhdapgiealmfab
