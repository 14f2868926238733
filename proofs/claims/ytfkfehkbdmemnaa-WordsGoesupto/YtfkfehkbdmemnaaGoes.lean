/- What WordsGoes walks: a loop over All, left early, and within itself. -/
import Derived.Test.YtfkfehkbdmemnaaTurn
import Derived.Laws.EntriesVeiled
namespace Go.Proofs.Ytfkfehkbdmemnaa
open Go.RowKit Go.Shelf

attribute [local go_sem] Oper.semAt_some

/-- How many words the loop within has counted, so many having come. -/
def innerOf (L k : Nat) : Int := if k = 0 then 0 else (L : Int)
def seqV (n2 : Nat) : Value := .func (.func 24) #[] #[.pointer (some ⟨n2, 0, none⟩)]
/-- What the loop's variables hold between two rounds. -/
def GoesCore (w2 : World) (s : ByteArray) (pre : List GWd) (W : World) : Prop :=
  ((((∃ v, Boxed W (w2.heap.size + 1 + 1) 31 v ∧ W.ownsRow w2.heap.size 26 3 v pre.length (wdCells (pre.map (·.1))) ∧ True) ∧ Boxed W (w2.heap.size + 1 + 1 + 1) 3 (.int .i64 (innerOf (wordsFrom s 0).length pre.length)))
    ∧ Boxed W (w2.heap.size + 1) 38 (seqV w2.heap.size)) ∧ Boxed W w2.heap.size 9 (.string s)) ∧ Below w2.heap.size w2 W
theorem goesCore_own (w2 : World) (s : ByteArray) {B : Nat} (hB : w2.heap.size ≤ B) : OwnFrom B (GoesCore w2 s) :=
  OwnFrom.and (OwnFrom.and (OwnFrom.and (OwnFrom.and (Own.from (holdsRow_own w2.heap.size (w2.heap.size + 1 + 1) 31 26 3 (fun pre : List GWd => pre.length) (fun pre : List GWd => wdCells (pre.map (·.1))) (fun _ _ => True)) _)
    (Own.from (boxed_own _ _ (fun pre : List GWd => .int .i64 (innerOf (wordsFrom s 0).length pre.length))) _)) (Own.from (boxed_own _ _ (fun _ => seqV w2.heap.size)) _)) (Own.from (boxed_own _ _ (fun _ => .string s)) _)) (ownFrom_below (Nat.le_refl _) hB)

theorem wdBox_own {β : Type} (B : Nat) (x : Wd) : Own (fun (_ : β) W => WdBox W B x) := fun _ _ _ _ hs hg hr => wdBox_kept hs hg hr
theorem wdBox_not_box {W : World} {Bx B : Nat} {x : Wd} {t : TypeId} {v : Value} (h : WdBox W Bx x) (k : Boxed W B t v) : Bx ≠ B := fun e => by
  subst e
  have := (show W.heap[Bx]? = _ from h).symm.trans k
  simp at this

theorem same_later {W : World} {b : Later W} {a c : Option Addr} {n ca cb : Nat} {ws : List Wd} (ha : WdsAt W a n ws) (hc : WdsAt W c n ws) :
    Calls Try.prog 13 #[.slice a n ca, .slice c n cb] b.now fun e w'' => e = .returned (.bool true) ∧ ∃ b' : Later W, w'' = b'.now :=
  calls_later (same_any _ _ _ _ _ _ _ (ha.below b.below) (hc.below b.below))

/-- One word more: behind the append and the store. -/
theorem goes_append {w2 V w1 : World} {s : ByteArray} {pre : List GWd} {x : GWd} {v v' : Value} {tmp : Obj} {M : Nat} {most : Int}
    (bv : Boxed V (w2.heap.size + 1 + 1) 31 v) (hrow : V.ownsRow w2.heap.size 26 3 v pre.length (wdCells (pre.map (·.1)))) (bi : Boxed V (w2.heap.size + 1 + 1 + 1) 3 (.int .i64 (innerOf (wordsFrom s 0).length (pre.length + 1))))
    (bs : Boxed V (w2.heap.size + 1) 38 (seqV w2.heap.size)) (bt : Boxed V w2.heap.size 9 (.string s)) (hB : Below w2.heap.size w2 V) (hM : Boxed V M 3 (.int .i64 most))
    (hown' : w1.ownsRow w2.heap.size 26 3 v' (pre.length + 1) (wdCells (pre.map (·.1)) ++ x.1.cells)) (hgrow : (V.alloc tmp).grownBy w1 v.ownBlock) :
    (Boxed w1 (w2.heap.size + 1 + 1) 31 v ∧ Boxed w1 M 3 (.int .i64 most)) ∧ GoesCore w2 s (pre ++ [x]) (w1.setCell ⟨w2.heap.size + 1 + 1, 0, none⟩ v') ∧ KeepsOthers V (w1.setCell ⟨w2.heap.size + 1 + 1, 0, none⟩ v') := by
  obtain ⟨hv1, hv2, hr2, hk2, hb2⟩ := bv.appended (by decide) hrow hB.size (by omega) hown' hgrow
  have kept : ∀ {B : Nat} {ty : TypeId} {u : Value}, Boxed V B ty u → ty ≠ 26 → Boxed w1 B ty u := fun h ht => (h.alloc tmp).kept hgrow (h.not_row ht hrow)
  refine ⟨⟨hv1, kept hM (by decide)⟩, ⟨⟨⟨⟨⟨v', hv2, ?_, trivial⟩, ?_⟩, (kept bs (by decide)).other (by omega) _⟩, (kept bt (by decide)).other (by omega) _⟩, hB.trans hb2⟩, hk2⟩
  · rw [List.map_append, List.map_cons, List.map_nil, wdCells_snoc, List.length_append]
    exact hr2
  · rw [List.length_append]
    exact (kept bi (by decide)).other (by omega) _

set_option maxRecDepth 100000 in
set_option maxHeartbeats 8000000 in
theorem wordsGoes_walk (s : ByteArray) (most : Int) (w : World) (hs : s.size ≤ 1048576) :
    Calls Try.prog 5 #[.string s, .int .i64 most] w fun e W' => e = .returned (.bool true) ∧ Below w.heap.size w W' := by
  refine (callsIn_wide (n := 9)).1 ?_
  have h1 : 1 ≤ 9 := by omega
  have hs' : s.size ≤ maxLen := by unfold maxLen; omega
  obtain ⟨i0, hi, hz0, hz1, hz2⟩ := info_parts Try.info26
  refine callsIn_of_wp_marks Try.func5 rfl trivial ?_ rfl
  simp only [Try.ntmps5, List.size_toArray, List.length_cons, List.length_nil, Nat.reduceAdd, Nat.reduceSub, Array.replicate_succ, Array.replicate_zero, List.push_toArray, List.append_toArray, List.nil_append, List.cons_append]
  gi_wp2_with fail
  refine ⟨trivial, ?_⟩
  refine (callsIn_wide.2 (head_any _)).mono ?_
  rintro e w1 ⟨rfl, hb1⟩
  have hM1 : Boxed w1 w.heap.size 3 (.int .i64 most) := boxed_below (Boxed.new w 3 (.int .i64 most)) hb1
  have T1 : Below w.heap.size w w1 := ((Below.refl _ w).alloc (Nat.le_refl _) _).trans (hb1.mono (by simp))
  clear hb1
  gi_wp2_with fail
  refine ⟨trivial, ?_⟩
  refine (callsIn_wide.2 (rbegin_any s _ (by omega))).mono ?_
  rintro e w2 ⟨v2, rfl, hrow2, hb2⟩
  obtain ⟨A, ca, rfl, hca, hatA, hA⟩ := wdsAt_of_owns hrow2
  have hM2 : Boxed w2 w.heap.size 3 (.int .i64 most) := boxed_below hM1 hb2
  have T2 : Below w.heap.size w w2 := T1.trans (hb2.mono T1.size)
  have hAform : A = none ∨ ∃ g, A = some ⟨g, 0, none⟩ := by
    rcases hrow2.2 with ⟨hv, _⟩ | ⟨g, cap, cur, hv, _⟩
    · injection hv with e; exact .inl e
    · injection hv with e; exact .inr ⟨g, e⟩
  clear hb2 hM1 T1 hrow2 hA
  gi_wp2_with fail
  refine ⟨trivial, ?_⟩
  refine (callsIn_wide.2 (all_any s _)).mono ?_
  rintro e w' ⟨rfl, rfl⟩
  gi_wp2
  have bT := (((Boxed.new w2 9 (.string s)).alloc (.cells #[seqV w2.heap.size] 38)).alloc (.cells #[.slice none 0 0] 31)).alloc (.cells #[.int .i64 0] 3)
  have bS := ((Boxed.new (w2.alloc (.cells #[.string s] 9)) 38 (seqV w2.heap.size)).alloc (.cells #[.slice none 0 0] 31)).alloc (.cells #[.int .i64 0] 3)
  have bG := (Boxed.new ((w2.alloc (.cells #[.string s] 9)).alloc (.cells #[seqV w2.heap.size] 38)) 31 (.slice none 0 0)).alloc (.cells #[.int .i64 0] 3)
  have bI := Boxed.new (((w2.alloc (.cells #[.string s] 9)).alloc (.cells #[seqV w2.heap.size] 38)).alloc (.cells #[.slice none 0 0] 31)) 3 (.int .i64 0)
  simp only [World.size_alloc] at bS bG bI
  have hB0 : Below w2.heap.size w2 ((((w2.alloc (.cells #[.string s] 9)).alloc (.cells #[seqV w2.heap.size] 38)).alloc (.cells #[.slice none 0 0] 31)).alloc (.cells #[.int .i64 0] 3)) := ((((Below.refl _ w2).alloc (Nat.le_refl _) _).alloc (by simp) _).alloc (by simp; omega) _).alloc (by simp; omega) _
  have hsz : ((((w2.alloc (.cells #[.string s] 9)).alloc (.cells #[seqV w2.heap.size] 38)).alloc (.cells #[.slice none 0 0] 31)).alloc (.cells #[.int .i64 0] 3)).heap.size = w2.heap.size + 4 := by simp
  obtain ⟨W0, hW0⟩ : ∃ W0, (((w2.alloc (.cells #[.string s] 9)).alloc (.cells #[seqV w2.heap.size] 38)).alloc (.cells #[.slice none 0 0] 31)).alloc (.cells #[.int .i64 0] 3) = W0 := ⟨_, rfl⟩
  have hW0' := hW0
  unfold seqV at hW0'
  rw [hW0] at bT bS bG bI hB0 hsz
  rw [hW0']
  clear hW0 hW0'
  have hmp : (Value.int .i64 most = .int .i64 most) := rfl
  refine wpIn_rangeFunc_ownH rfl h1 (gf := 24) (lb := #[.pointer (some ⟨w2.heap.size, 0, none⟩)]) rfl trivial (enters_of Try.func24 (by kernel_rfl) rfl)
    (all_stops (9 - 1) (by omega) w2.heap.size s hs' W0 bT) kpBox_t (fun W l o o' _ h hc _ => kpBox_b W l o o' h hc) (Below.refl _ _) (fun _ => rfl)
    (fun (pre : List GWd) W => GoesCore w2 s pre W ∧ (most < 1 ∨ (pre.length : Int) < most))
    (fun c (pre : List GWd) W => GoesCore w2 s pre W ∧ (c = .exit 0 ∧ (pre.length : Int) = most ∧ 0 < pre.length))
    (OwnFrom.and (goesCore_own w2 s (by omega)) (ownFrom_pure _ _))
    (fun c => OwnFrom.and (goesCore_own w2 s (by omega)) (ownFrom_pure _ _))
    ⟨⟨⟨⟨⟨⟨_, bG, World.ownsRow_nil _ _ _ _, trivial⟩, bI⟩, bS⟩, bT⟩, hB0⟩, by simp; omega⟩
    (fun x a' W => ∃ Bx v, Boxed W (w2.heap.size + 1 + 1) 31 v ∧ some Bx ≠ v.ownBlock ∧ WdBox W Bx x.1 ∧ a' = { tmps := #[.string s, .int .i64 most, undef, .pointer (some ⟨w.heap.size, 0, none⟩), .bool false, .bool true, .slice A (wordsFrom s 0).length ca, .pointer (some ⟨w2.heap.size + 1, 0, none⟩), .pointer (some ⟨w2.heap.size + 1 + 1, 0, none⟩), .pointer (some ⟨w2.heap.size + 1 + 1 + 1, 0, none⟩), .pointer (some ⟨Bx, 0, none⟩), undef, undef, .bool true, .bool true, .bool false, .string s, .slice A (wordsFrom s 0).length ca, .string s, .func (.func 24) #[] #[.pointer (some ⟨w2.heap.size, 0, none⟩)], .func (.func 24) #[] #[.pointer (some ⟨w2.heap.size, 0, none⟩)], .agg #[.int .i64 x.1.kind, .string x.1.text, .int .i64 x.1.place], undef, undef, undef, undef, undef, undef, undef, undef, undef, undef, undef, undef, undef, undef, undef, undef, undef, undef, undef, undef, undef, undef, undef, undef, undef, undef, undef, undef, undef, undef, undef, undef, undef, undef, undef, undef, undef, undef, undef, undef, undef], defers := [] })
    (fun x a' _ X Y row hs hg hr => by
      obtain ⟨Bx, v, h2, h3, h4, h5⟩ := hs
      exact ⟨Bx, v, boxed_own (w2.heap.size + 1 + 1) 31 (fun (_ : Unit) => v) () X Y row h2 hg (fun r e => (hr r e).2), h3, wdBox_kept h4 hg (fun r e => (hr r e).2), h5⟩)
    ?assign ?body ?done ?stop
  case assign =>
    rintro l pre x W K ⟨⟨⟨⟨⟨⟨v, bv, hrow, _⟩, bi⟩, bs⟩, bt⟩, hB⟩, hmost⟩ hK
    gi_wp2
    exact hK _ _ ((KeepsOthers.alloc _ _).from _) (fun hb => hb.alloc _) ⟨⟨⟨⟨⟨⟨v, bv.alloc _, hrow.alloc _, trivial⟩, bi.alloc _⟩, bs.alloc _⟩, bt.alloc _⟩, hB.alloc hB.size _⟩, hmost⟩ ⟨W.heap.size, v, bv.alloc _, own_lt hrow, WdBox.new W x.1, rfl⟩
  case body =>
    rintro l pre x a' W hl ⟨r, hr⟩ ⟨⟨⟨⟨⟨⟨v, bv, hrow, _⟩, bi⟩, bs⟩, bt⟩, hB⟩, hmost⟩ ⟨Bx, v2, bv2, hne, hx, rfl⟩ hlt
    obtain rfl : v2 = v := boxed_inj bv2 bv
    have hM : Boxed W w.heap.size 3 (.int .i64 most) := (hB.block _ hM2.lt).trans hM2
    have cL := bv.cell
    have cS := bs.cell
    unfold seqV at cS
    have h1' : 1 ≤ 9 - 1 - 1 := by omega
    have hsW := hB.size
    have hsmall := words_small s
    by_cases hp : pre.length = 0
    · obtain rfl : pre = [] := List.length_eq_zero_iff.1 hp
      clear hp
      obtain ⟨ga, gc, rfl, _⟩ := wdsAt_of_owns hrow
      gi_wp2
      refine wpIn_rangeFunc_ownN (l₀ := l) (r₀ := r) rfl hr h1' (gf := 24) (lb := #[.pointer (some ⟨w2.heap.size, 0, none⟩)]) rfl trivial (enters_of Try.func24 (by kernel_rfl) rfl)
        ((all_stops (9 - 1 - 1 - 1) (by omega) w2.heap.size s hs' W bt).inRound l) kpBox_t (fun W l o o' _ h hc _ => kpBox_b W l o o' h hc) (Below.refl _ _) (fun _ => rfl)
        (fun (pre' : List GWd) W' => (((((∃ u, Boxed W' (w2.heap.size + 1 + 1) 31 u ∧ W'.ownsRow w2.heap.size 26 3 u 0 (wdCells []) ∧ u = .slice ga 0 gc) ∧ WdBox W' Bx x.1) ∧ Boxed W' (w2.heap.size + 1 + 1 + 1) 3 (.int .i64 (pre'.length : Int))) ∧ Boxed W' (w2.heap.size + 1) 38 (seqV w2.heap.size)) ∧ Boxed W' w2.heap.size 9 (.string s)) ∧ (Below w2.heap.size W W' ∧ KeepsFrom W0.heap.size W W'))
        (fun _ _ _ => False)
        (OwnFrom.and (OwnFrom.and (OwnFrom.and (OwnFrom.and (OwnFrom.and (Own.from (holdsRow_own w2.heap.size (w2.heap.size + 1 + 1) 31 26 3 (fun _ : List GWd => 0) (fun _ : List GWd => wdCells []) (fun _ u => u = .slice ga 0 gc)) _) (Own.from (wdBox_own _ _) _)) (Own.from (boxed_own _ _ (fun pre' : List GWd => .int .i64 (pre'.length : Int))) _)) (Own.from (boxed_own _ _ (fun _ => seqV w2.heap.size)) _)) (Own.from (boxed_own _ _ (fun _ => .string s)) _)) (OwnFrom.and (ownFrom_below hsW hsW) (ownFrom_keepsFrom (Nat.le_refl _))))
        (fun _ _ _ _ _ hs _ _ => hs)
        ⟨⟨⟨⟨⟨⟨_, bv, hrow, rfl⟩, hx⟩, bi⟩, bs⟩, bt⟩, Below.refl _ _, KeepsFrom.refl _ _⟩
        (fun y a'' _ => a'' = { tmps := #[.string s, .int .i64 most, undef, .pointer (some ⟨w.heap.size, 0, none⟩), .bool false, .bool true, .slice A (wordsFrom s 0).length ca, .pointer (some ⟨w2.heap.size + 1, 0, none⟩), .pointer (some ⟨w2.heap.size + 1 + 1, 0, none⟩), .pointer (some ⟨w2.heap.size + 1 + 1 + 1, 0, none⟩), .pointer (some ⟨Bx, 0, none⟩), undef, undef, .bool true, .bool true, .bool false, .string s, .slice A (wordsFrom s 0).length ca, .string s, .func (.func 24) #[] #[.pointer (some ⟨w2.heap.size, 0, none⟩)], .func (.func 24) #[] #[.pointer (some ⟨w2.heap.size, 0, none⟩)], .agg #[.int .i64 x.1.kind, .string x.1.text, .int .i64 x.1.place], .slice ga 0 gc, .int .i64 0, .bool true, .func (.func 24) #[] #[.pointer (some ⟨w2.heap.size, 0, none⟩)], .agg #[.int .i64 y.1.kind, .string y.1.text, .int .i64 y.1.place], undef, undef, undef, undef, undef, undef, undef, undef, undef, undef, undef, undef, undef, undef, undef, undef, undef, undef, undef, undef, undef, undef, undef, undef, undef, undef, undef, undef, undef, undef, undef, undef, undef, undef, undef, undef], defers := [] })
        (fun _ _ _ _ _ _ hs _ _ => hs)
        ?assign2 ?body2 ?done2 ?stop2
      case assign2 =>
        rintro l2 pre' y W' K hi hK
        gi_wp2
        exact hK _ _ (KeepsFrom.refl _ _) (fun hb => hb) hi rfl
      case body2 =>
        rintro l2 pre' y a'' W' _ _ ⟨⟨⟨⟨⟨⟨u, bu, hru, hu⟩, hx'⟩, bi'⟩, bs'⟩, bt'⟩, hBW, hKF⟩ rfl hlt2
        have ci := bi'.cell
        have fi := bi'.frozen
        have hnx := wdBox_not_box hx' bi'
        gi_wp2
        refine ⟨(KeepsOthers.setCell _ _ _).from _, fun hb => hb.other (by omega) _, ⟨⟨⟨⟨⟨⟨u, bu.other (by omega) _, hru.kept (grownBy_setCell' _ _ _) (.inr (bi'.not_row (by decide) hru).symm), hu⟩, wdBox_grown hx' (grownBy_setCell' _ _ _) (fun e => hnx (by cases e; rfl))⟩, ?_⟩, bs'.other (by omega) _⟩, bt'.other (by omega) _⟩, hBW.setCell (p := ⟨w2.heap.size + 1 + 1 + 1, 0, none⟩) (by simp; omega) _, hKF.trans ((KeepsOthers.setCell _ _ _).from _)⟩⟩
        rw [List.length_append]
        exact bi'.set _
      case done2 =>
        rintro ys' W' hS ⟨⟨⟨⟨⟨⟨u, bu, hru, rfl⟩, hx'⟩, bi'⟩, bs'⟩, bt'⟩, hBW, hKF⟩
        have hyl : ys'.length = (wordsFrom s 0).length := by rw [← hS]; simp
        have bi2 : Boxed W' (w2.heap.size + 1 + 1 + 1) 3 (.int .i64 (innerOf (wordsFrom s 0).length (([] : List GWd).length + 1))) := by rw [hyl] at bi'; exact bi'
        have hB2 : Below w2.heap.size w2 W' := hB.trans hBW
        have hMlt := hM2.lt
        have hM2b : Boxed W' w.heap.size 3 (.int .i64 most) := (hBW.block _ hMlt).trans hM
        have cG := bu.cell
        have c0 := hx'.c0
        have c1 := hx'.c1
        have c2 := hx'.c2
        have hsW' := hB2.size
        have hmax : maxLen = 9223372036854775807 := rfl
        cases hm1 : ((1 : Int) == most)
        · gi_wp2_with (gi_at_builtin; refine wpListIn_append_own _ rfl _ _ 31 rfl w2.heap.size 26 i0 (.agg #[.int .i64 0, .string ⟨#[]⟩, .int .i64 0]) 3 32 Try.underlying31 hi hz0 hz1 hz2 rfl (by decide) (.slice ga 0 gc) 0 (wdCells []) rfl (hru.alloc _) ⟨W'.heap.size, 0, none⟩ 1 1 x.1.cells rfl rfl (World.news_of_block (heap_alloc_new W' _)) (wd_one x.1) (by omega) (by omega) (by simp; omega) ?_; intro v' wq hown' hgrow _; obtain ⟨g', cap', rfl⟩ := ownsRow_succ hown'; obtain ⟨⟨hv1, hM1⟩, hcore, hko⟩ := goes_append (s := s) (pre := []) (x := x) bu hru bi2 bs' bt' hB2 hM2b hown' hgrow; have hc1 := hv1.cell; have hf1 := hv1.frozen; have hM3 : Boxed (wq.setCell ⟨w2.heap.size + 1 + 1, 0, none⟩ (.slice (some ⟨g', 0, none⟩) (0 + 1) cap')) w.heap.size 3 (.int .i64 most) := hM1.other (by omega) _; have cM3 := hM3.cell)
          have hm1' : (1 : Int) ≠ most := by simpa using hm1
          exact ⟨hKF.trans (hko.from _), fun _ => hcore.1.2, hcore, by simp; omega⟩
        · gi_wp2_with (gi_at_builtin; refine wpListIn_append_own _ rfl _ _ 31 rfl w2.heap.size 26 i0 (.agg #[.int .i64 0, .string ⟨#[]⟩, .int .i64 0]) 3 32 Try.underlying31 hi hz0 hz1 hz2 rfl (by decide) (.slice ga 0 gc) 0 (wdCells []) rfl (hru.alloc _) ⟨W'.heap.size, 0, none⟩ 1 1 x.1.cells rfl rfl (World.news_of_block (heap_alloc_new W' _)) (wd_one x.1) (by omega) (by omega) (by simp; omega) ?_; intro v' wq hown' hgrow _; obtain ⟨g', cap', rfl⟩ := ownsRow_succ hown'; obtain ⟨⟨hv1, hM1⟩, hcore, hko⟩ := goes_append (s := s) (pre := []) (x := x) bu hru bi2 bs' bt' hB2 hM2b hown' hgrow; have hc1 := hv1.cell; have hf1 := hv1.frozen; have hM3 : Boxed (wq.setCell ⟨w2.heap.size + 1 + 1, 0, none⟩ (.slice (some ⟨g', 0, none⟩) (0 + 1) cap')) w.heap.size 3 (.int .i64 most) := hM1.other (by omega) _; have cM3 := hM3.cell)
          have hm1' : (1 : Int) = most := by simpa using hm1
          exact ⟨hKF.trans (hko.from _), hcore, rfl, by simpa using hm1', by simp⟩
      case stop2 =>
        rintro c pre' W' _ h
        exact h.elim
    · have bi2 : Boxed W (w2.heap.size + 1 + 1 + 1) 3 (.int .i64 (innerOf (wordsFrom s 0).length (pre.length + 1))) := by
        unfold innerOf at bi ⊢
        rw [if_neg hp] at bi
        rw [if_neg (by omega)]
        exact bi
      obtain ⟨ga, gc, hv2, _⟩ := wdsAt_of_owns hrow
      subst hv2
      have hMlt := hM2.lt
      have hp0 : ((pre.length : Int) == 0) = false := beq_eq_false_iff_ne.2 (by omega)
      have c0 := hx.c0
      have c1 := hx.c1
      have c2 := hx.c2
      have hmax : maxLen = 9223372036854775807 := rfl
      cases hm1 : ((pre.length : Int) + 1 == most)
      · gi_wp2_with (gi_at_builtin; refine wpListIn_append_own _ rfl _ _ 31 rfl w2.heap.size 26 i0 (.agg #[.int .i64 0, .string ⟨#[]⟩, .int .i64 0]) 3 32 Try.underlying31 hi hz0 hz1 hz2 rfl (by decide) (.slice ga pre.length gc) pre.length (wdCells (pre.map (·.1))) rfl (hrow.alloc _) ⟨W.heap.size, 0, none⟩ 1 1 x.1.cells rfl rfl (World.news_of_block (heap_alloc_new W _)) (wd_one x.1) (by omega) (by omega) (by simp; omega) ?_; intro v' wq hown' hgrow _; obtain ⟨g', cap', rfl⟩ := ownsRow_succ hown'; obtain ⟨⟨hv1, hM1⟩, hcore, hko⟩ := goes_append (s := s) (pre := pre) (x := x) bv hrow bi2 bs bt hB hM hown' hgrow; have hc1 := hv1.cell; have hf1 := hv1.frozen; have hM3 : Boxed (wq.setCell ⟨w2.heap.size + 1 + 1, 0, none⟩ (.slice (some ⟨g', 0, none⟩) (pre.length + 1) cap')) w.heap.size 3 (.int .i64 most) := hM1.other (by omega) _; have cM3 := hM3.cell)
        have hm1' : (pre.length : Int) + 1 ≠ most := by simpa using hm1
        exact ⟨hko.from _, fun _ => hcore.1.2, hcore, by simp; omega⟩
      · gi_wp2_with (gi_at_builtin; refine wpListIn_append_own _ rfl _ _ 31 rfl w2.heap.size 26 i0 (.agg #[.int .i64 0, .string ⟨#[]⟩, .int .i64 0]) 3 32 Try.underlying31 hi hz0 hz1 hz2 rfl (by decide) (.slice ga pre.length gc) pre.length (wdCells (pre.map (·.1))) rfl (hrow.alloc _) ⟨W.heap.size, 0, none⟩ 1 1 x.1.cells rfl rfl (World.news_of_block (heap_alloc_new W _)) (wd_one x.1) (by omega) (by omega) (by simp; omega) ?_; intro v' wq hown' hgrow _; obtain ⟨g', cap', rfl⟩ := ownsRow_succ hown'; obtain ⟨⟨hv1, hM1⟩, hcore, hko⟩ := goes_append (s := s) (pre := pre) (x := x) bv hrow bi2 bs bt hB hM hown' hgrow; have hc1 := hv1.cell; have hf1 := hv1.frozen; have hM3 : Boxed (wq.setCell ⟨w2.heap.size + 1 + 1, 0, none⟩ (.slice (some ⟨g', 0, none⟩) (pre.length + 1) cap')) w.heap.size 3 (.int .i64 most) := hM1.other (by omega) _; have cM3 := hM3.cell)
        have hm1' : (pre.length : Int) + 1 = most := by simpa using hm1
        exact ⟨hko.from _, hcore, rfl, by simp; omega, by simp⟩
  case done =>
    rintro D pre W hD hS ⟨hcore, hmost⟩ hK
    have hlenS : pre.length = (wordsFrom s 0).length := by rw [← hS]; simp
    have hpre : pre.map (·.1) = (wordsFrom s 0).take pre.length := by rw [hlenS, List.take_length]; exact hS
    have hkL : pre.length ≤ (wordsFrom s 0).length := by omega
    have hcase : (most < 1 ∧ pre.length = (wordsFrom s 0).length) ∨ (1 ≤ most ∧ min ((wordsFrom s 0).length : Int) most = (pre.length : Int)) := by omega
    obtain ⟨⟨⟨⟨⟨v, bv, hrow, _⟩, bi⟩, bs⟩, bt⟩, hB⟩ := hcore
    obtain ⟨ga, gc, rfl, _, hatG, _⟩ := wdsAt_of_owns hrow
    have hatA1 := hatA.below hB
    have hMb : Boxed W w.heap.size 3 (.int .i64 most) := (hB.block _ hM2.lt).trans hM2
    have cM := hMb.cell
    have cG := bv.cell
    have cI := bi.cell
    rw [hpre] at hatG
    have hatA2 := hatA1.take hkL
    have hsmall := words_small s
    obtain ⟨k, hk⟩ : ∃ k, k = pre.length := ⟨_, rfl⟩
    rw [← hk] at hatG hatA2 cG cI hkL hcase
    obtain ⟨L, hL⟩ : ∃ L, L = (wordsFrom s 0).length := ⟨_, rfl⟩
    have hca' := hca
    rw [← hL] at cI hkL hcase hsmall hca' ⊢
    have HG : Hid (WdsAt W ga k ((wordsFrom s 0).take k)) := hatG
    have HA : Hid (WdsAt W A k ((wordsFrom s 0).take k)) := hatA2
    have hin : (innerOf L k == (L : Int)) = true ∨ k = 0 := by
      rcases Nat.eq_zero_or_pos k with h | h
      · exact .inr h
      · left; unfold innerOf; rw [if_neg (by omega)]; simp
    have hAnil : A = none → k = 0 := fun e => by
      rcases Nat.eq_zero_or_pos k with h | h
      · exact h
      · obtain ⟨b, off, e', _⟩ := hatA2.cells 0 (by rw [← hatA2.len]; exact h)
        rw [e] at e'; cases e'
    clear hatG hatA1 hatA2 hrow hpre hL hk
    have hk0 : (0 : Int) ≤ (k : Int) := by omega
    have hkc : (k : Int) ≤ (ca : Int) := by omega
    rcases hAform with rfl | ⟨g, rfl⟩
    · have hkz := hAnil rfl
      subst hkz
      have hLz : L = 0 := by omega
      subst hLz
      clear hAnil hin
      rcases hcase with ⟨hm, _⟩ | ⟨hm, hmin⟩
      · have hm' : ¬ 1 ≤ most := by omega
        gi_wp2
        refine wpIn_wide.2 ?_
        have hne := later_some W
        have e0 := later_cell cG
        have e1 := later_cell cI
        refine wp_region_later (by kernel_rfl) (by kernel_rfl) ?_
        repeat (go_big_quiet_step (first | (go_at_call 13; exact same_later HG.out HA.out) | fail))
        refine wpQuiet_nil ?_
        intro _ hw'
        obtain ⟨b2, hw2⟩ := hw'
        subst hw2
        have cI2 := e1 b2
        have hK2 : b2.now.heap[D]? = some (.deferred (some [])) := (b2.below.block D (Array.getElem?_eq_some_iff.1 hK).1).trans hK
        have HT : Hid (Below w.heap.size w b2.now) := (T2.trans (hB.mono T2.size)).trans (b2.below.mono (Nat.le_trans T2.size hB.size))
        clear e0 e1 hne
        gi_wp2
        refine ⟨by simp, .inl ⟨_, _, rfl, run_takeDeferred hK2, ?_⟩⟩
        exact ⟨_, results_tmp rfl _ _ _, rfl, HT.out.trans (belowK_b (w := w) (Nat.le_refl _) _ D _ _ (by have := T2.size; omega) hK2 rfl rfl)⟩
      · have hmin' : min (0 : Int) most = 0 := by omega
        gi_wp2
        refine wpIn_wide.2 ?_
        have hne := later_some W
        have e0 := later_cell cG
        have e1 := later_cell cI
        refine wp_region_later (by kernel_rfl) (by kernel_rfl) ?_
        repeat (go_big_quiet_step (first | (go_at_call 13; exact same_later HG.out HA.out) | fail))
        refine wpQuiet_nil ?_
        intro _ hw'
        obtain ⟨b2, hw2⟩ := hw'
        subst hw2
        have cI2 := e1 b2
        have hK2 : b2.now.heap[D]? = some (.deferred (some [])) := (b2.below.block D (Array.getElem?_eq_some_iff.1 hK).1).trans hK
        have HT : Hid (Below w.heap.size w b2.now) := (T2.trans (hB.mono T2.size)).trans (b2.below.mono (Nat.le_trans T2.size hB.size))
        clear e0 e1 hne
        gi_wp2
        refine ⟨by simp, .inl ⟨_, _, rfl, run_takeDeferred hK2, ?_⟩⟩
        exact ⟨_, results_tmp rfl _ _ _, rfl, HT.out.trans (belowK_b (w := w) (Nat.le_refl _) _ D _ _ (by have := T2.size; omega) hK2 rfl rfl)⟩
    · clear hAnil
      rcases hcase with ⟨hm, rfl⟩ | ⟨hm, hmin⟩
      · have hm' : ¬ 1 ≤ most := by omega
        gi_wp2
        refine wpIn_wide.2 ?_
        have hne := later_some W
        have e0 := later_cell cG
        have e1 := later_cell cI
        refine wp_region_later (by kernel_rfl) (by kernel_rfl) ?_
        repeat (go_big_quiet_step (first | (go_at_call 13; exact same_later HG.out HA.out) | fail))
        refine wpQuiet_nil ?_
        intro _ hw'
        obtain ⟨b2, hw2⟩ := hw'
        subst hw2
        have cI2 := e1 b2
        have hK2 : b2.now.heap[D]? = some (.deferred (some [])) := (b2.below.block D (Array.getElem?_eq_some_iff.1 hK).1).trans hK
        have HT : Hid (Below w.heap.size w b2.now) := (T2.trans (hB.mono T2.size)).trans (b2.below.mono (Nat.le_trans T2.size hB.size))
        clear e0 e1 hne
        by_cases hkz : k = 0
        · have hkb : ((k : Int) == 0) = true := by simp [hkz]
          gi_wp2
          refine ⟨by simp, .inl ⟨_, _, rfl, run_takeDeferred hK2, ?_⟩⟩
          exact ⟨_, results_tmp rfl _ _ _, rfl, HT.out.trans (belowK_b (w := w) (Nat.le_refl _) _ D _ _ (by have := T2.size; omega) hK2 rfl rfl)⟩
        · have hkb : ((k : Int) == 0) = false := beq_eq_false_iff_ne.2 (by omega)
          unfold innerOf at cI2
          rw [if_neg hkz] at cI2
          gi_wp2
          refine ⟨by simp, .inl ⟨_, _, rfl, run_takeDeferred hK2, ?_⟩⟩
          exact ⟨_, results_tmp rfl _ _ _, rfl, HT.out.trans (belowK_b (w := w) (Nat.le_refl _) _ D _ _ (by have := T2.size; omega) hK2 rfl rfl)⟩
      · have hxx : True := trivial
        gi_wp2
        refine wpIn_wide.2 ?_
        have hne := later_some W
        have e0 := later_cell cG
        have e1 := later_cell cI
        refine wp_region_later (by kernel_rfl) (by kernel_rfl) ?_
        repeat (go_big_quiet_step (first | (go_at_call 13; exact same_later HG.out HA.out) | fail))
        refine wpQuiet_nil ?_
        intro _ hw'
        obtain ⟨b2, hw2⟩ := hw'
        subst hw2
        have cI2 := e1 b2
        have hK2 : b2.now.heap[D]? = some (.deferred (some [])) := (b2.below.block D (Array.getElem?_eq_some_iff.1 hK).1).trans hK
        have HT : Hid (Below w.heap.size w b2.now) := (T2.trans (hB.mono T2.size)).trans (b2.below.mono (Nat.le_trans T2.size hB.size))
        clear e0 e1 hne
        by_cases hkz : k = 0
        · have hkb : ((k : Int) == 0) = true := by simp [hkz]
          gi_wp2
          refine ⟨by simp, .inl ⟨_, _, rfl, run_takeDeferred hK2, ?_⟩⟩
          exact ⟨_, results_tmp rfl _ _ _, rfl, HT.out.trans (belowK_b (w := w) (Nat.le_refl _) _ D _ _ (by have := T2.size; omega) hK2 rfl rfl)⟩
        · have hkb : ((k : Int) == 0) = false := beq_eq_false_iff_ne.2 (by omega)
          unfold innerOf at cI2
          rw [if_neg hkz] at cI2
          gi_wp2
          refine ⟨by simp, .inl ⟨_, _, rfl, run_takeDeferred hK2, ?_⟩⟩
          exact ⟨_, results_tmp rfl _ _ _, rfl, HT.out.trans (belowK_b (w := w) (Nat.le_refl _) _ D _ _ (by have := T2.size; omega) hK2 rfl rfl)⟩
  case stop =>
    rintro D c pre W hD hSp ⟨hcore, rfl, hmost, hpos⟩ hK
    have hpre : pre.map (·.1) = (wordsFrom s 0).take pre.length := by
      have h := List.prefix_iff_eq_take.1 hSp
      rwa [List.length_map] at h
    have hkL : pre.length ≤ (wordsFrom s 0).length := by
      have h := hSp.length_le
      rwa [List.length_map] at h
    have hcase : (most < 1 ∧ pre.length = (wordsFrom s 0).length) ∨ (1 ≤ most ∧ min ((wordsFrom s 0).length : Int) most = (pre.length : Int)) := by omega
    obtain ⟨⟨⟨⟨⟨v, bv, hrow, _⟩, bi⟩, bs⟩, bt⟩, hB⟩ := hcore
    obtain ⟨ga, gc, rfl, _, hatG, _⟩ := wdsAt_of_owns hrow
    have hatA1 := hatA.below hB
    have hMb : Boxed W w.heap.size 3 (.int .i64 most) := (hB.block _ hM2.lt).trans hM2
    have cM := hMb.cell
    have cG := bv.cell
    have cI := bi.cell
    rw [hpre] at hatG
    have hatA2 := hatA1.take hkL
    have hsmall := words_small s
    obtain ⟨k, hk⟩ : ∃ k, k = pre.length := ⟨_, rfl⟩
    rw [← hk] at hatG hatA2 cG cI hkL hcase
    obtain ⟨L, hL⟩ : ∃ L, L = (wordsFrom s 0).length := ⟨_, rfl⟩
    have hca' := hca
    rw [← hL] at cI hkL hcase hsmall hca' ⊢
    have HG : Hid (WdsAt W ga k ((wordsFrom s 0).take k)) := hatG
    have HA : Hid (WdsAt W A k ((wordsFrom s 0).take k)) := hatA2
    have hin : (innerOf L k == (L : Int)) = true ∨ k = 0 := by
      rcases Nat.eq_zero_or_pos k with h | h
      · exact .inr h
      · left; unfold innerOf; rw [if_neg (by omega)]; simp
    have hAnil : A = none → k = 0 := fun e => by
      rcases Nat.eq_zero_or_pos k with h | h
      · exact h
      · obtain ⟨b, off, e', _⟩ := hatA2.cells 0 (by rw [← hatA2.len]; exact h)
        rw [e] at e'; cases e'
    clear hatG hatA1 hatA2 hrow hpre hL hk
    have hk0 : (0 : Int) ≤ (k : Int) := by omega
    have hkc : (k : Int) ≤ (ca : Int) := by omega
    rcases hAform with rfl | ⟨g, rfl⟩
    · have hkz := hAnil rfl
      subst hkz
      have hLz : L = 0 := by omega
      subst hLz
      clear hAnil hin
      rcases hcase with ⟨hm, _⟩ | ⟨hm, hmin⟩
      · have hm' : ¬ 1 ≤ most := by omega
        gi_wp2
        refine wpIn_wide.2 ?_
        have hne := later_some W
        have e0 := later_cell cG
        have e1 := later_cell cI
        refine wp_region_later (by kernel_rfl) (by kernel_rfl) ?_
        repeat (go_big_quiet_step (first | (go_at_call 13; exact same_later HG.out HA.out) | fail))
        refine wpQuiet_nil ?_
        intro _ hw'
        obtain ⟨b2, hw2⟩ := hw'
        subst hw2
        have cI2 := e1 b2
        have hK2 : b2.now.heap[D]? = some (.deferred (some [])) := (b2.below.block D (Array.getElem?_eq_some_iff.1 hK).1).trans hK
        have HT : Hid (Below w.heap.size w b2.now) := (T2.trans (hB.mono T2.size)).trans (b2.below.mono (Nat.le_trans T2.size hB.size))
        clear e0 e1 hne
        gi_wp2
        refine ⟨by simp, .inl ⟨_, _, rfl, run_takeDeferred hK2, ?_⟩⟩
        exact ⟨_, results_tmp rfl _ _ _, rfl, HT.out.trans (belowK_b (w := w) (Nat.le_refl _) _ D _ _ (by have := T2.size; omega) hK2 rfl rfl)⟩
      · have hmin' : min (0 : Int) most = 0 := by omega
        gi_wp2
        refine wpIn_wide.2 ?_
        have hne := later_some W
        have e0 := later_cell cG
        have e1 := later_cell cI
        refine wp_region_later (by kernel_rfl) (by kernel_rfl) ?_
        repeat (go_big_quiet_step (first | (go_at_call 13; exact same_later HG.out HA.out) | fail))
        refine wpQuiet_nil ?_
        intro _ hw'
        obtain ⟨b2, hw2⟩ := hw'
        subst hw2
        have cI2 := e1 b2
        have hK2 : b2.now.heap[D]? = some (.deferred (some [])) := (b2.below.block D (Array.getElem?_eq_some_iff.1 hK).1).trans hK
        have HT : Hid (Below w.heap.size w b2.now) := (T2.trans (hB.mono T2.size)).trans (b2.below.mono (Nat.le_trans T2.size hB.size))
        clear e0 e1 hne
        gi_wp2
        refine ⟨by simp, .inl ⟨_, _, rfl, run_takeDeferred hK2, ?_⟩⟩
        exact ⟨_, results_tmp rfl _ _ _, rfl, HT.out.trans (belowK_b (w := w) (Nat.le_refl _) _ D _ _ (by have := T2.size; omega) hK2 rfl rfl)⟩
    · clear hAnil
      rcases hcase with ⟨hm, rfl⟩ | ⟨hm, hmin⟩
      · have hm' : ¬ 1 ≤ most := by omega
        gi_wp2
        refine wpIn_wide.2 ?_
        have hne := later_some W
        have e0 := later_cell cG
        have e1 := later_cell cI
        refine wp_region_later (by kernel_rfl) (by kernel_rfl) ?_
        repeat (go_big_quiet_step (first | (go_at_call 13; exact same_later HG.out HA.out) | fail))
        refine wpQuiet_nil ?_
        intro _ hw'
        obtain ⟨b2, hw2⟩ := hw'
        subst hw2
        have cI2 := e1 b2
        have hK2 : b2.now.heap[D]? = some (.deferred (some [])) := (b2.below.block D (Array.getElem?_eq_some_iff.1 hK).1).trans hK
        have HT : Hid (Below w.heap.size w b2.now) := (T2.trans (hB.mono T2.size)).trans (b2.below.mono (Nat.le_trans T2.size hB.size))
        clear e0 e1 hne
        by_cases hkz : k = 0
        · have hkb : ((k : Int) == 0) = true := by simp [hkz]
          gi_wp2
          refine ⟨by simp, .inl ⟨_, _, rfl, run_takeDeferred hK2, ?_⟩⟩
          exact ⟨_, results_tmp rfl _ _ _, rfl, HT.out.trans (belowK_b (w := w) (Nat.le_refl _) _ D _ _ (by have := T2.size; omega) hK2 rfl rfl)⟩
        · have hkb : ((k : Int) == 0) = false := beq_eq_false_iff_ne.2 (by omega)
          unfold innerOf at cI2
          rw [if_neg hkz] at cI2
          gi_wp2
          refine ⟨by simp, .inl ⟨_, _, rfl, run_takeDeferred hK2, ?_⟩⟩
          exact ⟨_, results_tmp rfl _ _ _, rfl, HT.out.trans (belowK_b (w := w) (Nat.le_refl _) _ D _ _ (by have := T2.size; omega) hK2 rfl rfl)⟩
      · have hxx : True := trivial
        gi_wp2
        refine wpIn_wide.2 ?_
        have hne := later_some W
        have e0 := later_cell cG
        have e1 := later_cell cI
        refine wp_region_later (by kernel_rfl) (by kernel_rfl) ?_
        repeat (go_big_quiet_step (first | (go_at_call 13; exact same_later HG.out HA.out) | fail))
        refine wpQuiet_nil ?_
        intro _ hw'
        obtain ⟨b2, hw2⟩ := hw'
        subst hw2
        have cI2 := e1 b2
        have hK2 : b2.now.heap[D]? = some (.deferred (some [])) := (b2.below.block D (Array.getElem?_eq_some_iff.1 hK).1).trans hK
        have HT : Hid (Below w.heap.size w b2.now) := (T2.trans (hB.mono T2.size)).trans (b2.below.mono (Nat.le_trans T2.size hB.size))
        clear e0 e1 hne
        by_cases hkz : k = 0
        · have hkb : ((k : Int) == 0) = true := by simp [hkz]
          gi_wp2
          refine ⟨by simp, .inl ⟨_, _, rfl, run_takeDeferred hK2, ?_⟩⟩
          exact ⟨_, results_tmp rfl _ _ _, rfl, HT.out.trans (belowK_b (w := w) (Nat.le_refl _) _ D _ _ (by have := T2.size; omega) hK2 rfl rfl)⟩
        · have hkb : ((k : Int) == 0) = false := beq_eq_false_iff_ne.2 (by omega)
          unfold innerOf at cI2
          rw [if_neg hkz] at cI2
          gi_wp2
          refine ⟨by simp, .inl ⟨_, _, rfl, run_takeDeferred hK2, ?_⟩⟩
          exact ⟨_, results_tmp rfl _ _ _, rfl, HT.out.trans (belowK_b (w := w) (Nat.le_refl _) _ D _ _ (by have := T2.size; omega) hK2 rfl rfl)⟩
end Go.Proofs.Ytfkfehkbdmemnaa
