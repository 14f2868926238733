/- What All of package terms answers: an iterator over a copy of the term. -/
import Derived.Test.YtmhdapgiealmfabTWalk2
import Derived.Test.YtmhdapgiealmfabTClone
import Derived.Laws.AppendOwnNone
import Derived.Lib.SliceRun
namespace Go.Proofs.Ytmhdapgiealmfab
open Go.RowKit Go.Shelf Go.Deep

attribute [local go_sem] Oper.semAt_some

theorem row_empty3 (w : World) : (w.alloc (.cells #[] 3)).ownsRow w.heap.size 3 1 (.slice (some ⟨w.heap.size, 0, none⟩) 0 0) 0 [] :=
  ⟨rfl, .inr ⟨w.heap.size, 0, #[], rfl, Nat.le_refl _, World.alloc_heap_new w _, Nat.le_refl _, Nat.zero_le _, rfl, rfl⟩⟩
theorem ints_one (ps : List Int) : ∀ u ∈ intsV ps, u.oneCell' = true := by
  intro u hu
  obtain ⟨i, _, rfl⟩ := List.mem_map.1 hu
  rfl
theorem row_news {W : World} {g : Nat} {cur : Array Value} {t : TypeId} {fr : Nat × Nat} {xs : List Value} {n : Nat} (h : W.heap[g]? = some (Obj.cells cur t fr)) (hc : cur.toList.take n = xs) : ∀ j u, xs[j]? = some u → W.cell? ((⟨g, 0, none⟩ : Addr).add j) = some u := by
  intro j u hu
  have : (⟨g, 0, none⟩ : Addr).add j = ⟨g, j, none⟩ := by simp [Addr.add]; omega
  rw [this, cell_of_row W g j cur t fr h]
  subst hc
  rw [List.getElem?_take] at hu
  split at hu
  · simpa using hu
  · cases hu

set_option maxRecDepth 100000 in
set_option maxHeartbeats 1000000 in
theorem cloneInts_any (v : Value) (ps : List Int) (b : Nat) (w : World) (hR : w.ownsRow b 3 1 v ps.length (intsV ps)) (hM : (ps.length + 1) * 8 ≤ 140737488355328) :
    Calls Try.prog 17 #[v] w fun e w' => ∃ v', e = .returned v' ∧ w'.ownsRow w.heap.size 3 1 v' ps.length (intsV ps) ∧ Below w.heap.size w w' := by
  obtain ⟨i0, hi, hz0, hz1, hz2⟩ := info_parts Try.info3
  obtain ⟨hlen, hrow⟩ := hR
  have hmax : maxLen = 9223372036854775807 := rfl
  rcases hrow with ⟨rfl, hn⟩ | ⟨g, cap, cur, rfl, hg, hh, hnc, hcm, hsz, hcur⟩
  · have hp : ps = [] := List.length_eq_zero_iff.1 hn
    subst hp
    have hq : ∀ w : World, (binOp .eql 25 (.slice none 0 0) (.slice none 0 0)).run Try.prog w = .ok (.bool true) w := fun w => Lib.run_eql_slice_nil w 25 3 none 0 0 0 0 Try.underlying25
    go_enter Try.func17, Try.ntmps17
    go_wp2
    go_ret
    exact ⟨_, rfl, World.ownsRow_nil _ _ _ _, Below.refl _ _⟩
  · have hb9 : Below w.heap.size w (w.alloc (.cells #[] 3)) := (Below.refl _ w).alloc (Nat.le_refl _) _
    have hh9 : (w.alloc (.cells #[] 3)).heap[g]? = some (Obj.cells cur 3 (0, 0)) := (hb9.block g (Array.getElem?_eq_some_iff.1 hh).1).trans hh
    have n1 := row_news hh9 hcur
    have o1 := ints_one ps
    have e1 := row_empty3 w
    obtain ⟨n, hn⟩ : ∃ n, n = ps.length := ⟨_, rfl⟩
    obtain ⟨xs, hxs⟩ : ∃ xs, xs = intsV ps := ⟨_, rfl⟩
    rw [← hn, ← hxs] at hlen
    rw [← hn] at hnc hM ⊢
    rw [← hxs] at n1 o1 ⊢
    clear hn hxs hcur hh hh9 hsz
    have hq : ∀ w : World, (binOp .eql 25 (.slice (some ⟨g, 0, none⟩) n cap) (.slice none 0 0)).run Try.prog w = .ok (.bool false) w := fun w => Lib.run_eql_slice_nil w 25 3 (some ⟨g, 0, none⟩) n cap 0 0 Try.underlying25
    go_enter Try.func17, Try.ntmps17
    go_wp2_with (at_builtin; refine wpList_append_own _ rfl _ _ 25 rfl w.heap.size 3 i0 (.int .i64 0) 1 8 Try.underlying25 hi hz0 hz1 hz2 rfl (by decide) _ 0 [] rfl e1 ⟨g, 0, none⟩ n cap xs rfl hlen n1 o1 (by omega) (by omega) (by rw [World.size_alloc]; omega) ?_; intro v' w' hown hgrow _)
    go_ret
    refine ⟨v', rfl, by simpa using hown, ?_⟩
    exact hb9.grown hgrow (by rw [World.size_alloc]; omega) (fun k e => by cases e; exact Nat.le_refl _)

/-- What All leaves: the box of its copy, and where that lies. -/
structure AllIs (w w' : World) (x : ByteArray × Int) (a' : Option Addr) (c' : Nat) (l : Fo) : Prop where
  box : TBox w' w.heap.size x a' (lenF l) c'
  own : Own26 w' x a' c' l
  sizes : Sizes x.1 (lenF l) c'
  low : Below w.heap.size w w'

set_option maxRecDepth 100000 in
set_option maxHeartbeats 1000000 in
theorem all_any (x : ByteArray × Int) (l : Fo) (a : Option Addr) (c : Nat) (w : World) (hT : TmAt w x a c l) :
    Calls Try.prog 7 #[.agg #[.string x.1, .int .i64 x.2, .slice a (lenF l) c]] w fun e w' => e = .returned (.func (.func 15) #[] #[.pointer (some ⟨w.heap.size, 0, none⟩)]) ∧ ∃ a' c', AllIs w w' x a' c' l := by
  have hb : Below w.heap.size w (w.alloc (.cells #[.string x.1, .int .i64 x.2, .slice a (lenF l) c] 24)) := (Below.refl _ w).alloc (Nat.le_refl _) _
  have bT := TBox.new w x a (lenF l) c
  have hC := clone_any x l a c _ (hT.below hb)
  go_enter Try.func7, Try.ntmps7
  go_wp2_with fail
  refine hC.mono ?_
  rintro e w1 ⟨a1, c1, rfl, hS, hb1⟩
  have bT1 : TBox w1 w.heap.size x a (lenF l) c := (hb1.block _ (by simp)).trans bT
  have t0 := bT1.c0; have t1 := bT1.c1; have t2 := bT1.c2
  have f0 : ∀ i, w1.frozen? ⟨w.heap.size, i, none⟩ = false := fun i => by simp [World.frozen?, show w1.heap[w.heap.size]? = _ from bT1]
  have f00 := f0 0; have f01 := f0 1; have f02 := f0 2
  have hlow : Below w.heap.size w w1 := hb.trans (hb1.mono (by simp))
  clear hC bT
  go_wp2
  go_ret
  refine ⟨rfl, a1, c1, ?_, ?_, hS.sizes, ?_⟩
  · have h := block_set (block_set (block_set bT1 (k := 0) (.string x.1)) (k := 1) (.int .i64 x.2)) (k := 2) (.slice a1 (lenF l) c1)
    unfold TBox
    simpa using h
  · refine SepTm.own26 (A := fun k => w.heap.size < k) ((hS.mono (fun k hk => by simp at hk; omega)).keep (fun k hk _ => ?_))
    have : k ≠ w.heap.size := by omega
    exact ((Below.heap_setCell _ _ _ _ this).trans (Below.heap_setCell _ _ _ _ this)).trans (Below.heap_setCell _ _ _ _ this)
  · exact ((hlow.setCell (p := ⟨w.heap.size, 0, none⟩) (Nat.le_refl _) _).setCell (p := ⟨w.heap.size, 1, none⟩) (Nat.le_refl _) _).setCell (p := ⟨w.heap.size, 2, none⟩) (Nat.le_refl _) _
end Go.Proofs.Ytmhdapgiealmfab
