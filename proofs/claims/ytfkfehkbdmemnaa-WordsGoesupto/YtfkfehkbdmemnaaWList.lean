/- What List of package words answers of any text. -/
import Derived.Test.YtfkfehkbdmemnaaWMem
namespace Go.Proofs.Ytfkfehkbdmemnaa
open Go.RowKit Go.Shelf

attribute [local go_sem] Oper.semAt_some

theorem wdBox_grown {X Y : World} {row : Option Nat} {B : Nat} {x : Wd} (h : WdBox X B x) (hg : X.grownBy Y row) (hne : some B ≠ row) : WdBox Y B x := (hg.block B h.lt hne).trans h
theorem wdBox_kept {X Y : World} {row : Option Nat} {B : Nat} {x : Wd} (h : WdBox X B x) (hg : X.grownBy Y row) (hr : ∀ r, row = some r → ∃ o : Obj, X.heap[r]? = some o ∧ o.isCells = false) : WdBox Y B x :=
  wdBox_grown h hg (fun e => by
    obtain ⟨o, ho, hc⟩ := hr B e.symm
    rw [show X.heap[B]? = _ from h] at ho
    cases ho; cases hc)
theorem wdBox_alloc {W : World} {B : Nat} {x : Wd} (h : WdBox W B x) (o : Obj) : WdBox (W.alloc o) B x := wdBox_grown h (World.grownBy_alloc W o none) (by simp)
theorem boxed_inj {W : World} {B : Nat} {t : TypeId} {u v : Value} (h : Boxed W B t u) (k : Boxed W B t v) : u = v := by
  have := (show W.heap[B]? = _ from h).symm.trans k
  simpa using this
theorem owns_below {W W' : World} {base e size k : Nat} {v : Value} {xs : List Value} (h : W.ownsRow base e size v k xs) (hb : Below W.heap.size W W') : W'.ownsRow base e size v k xs :=
  h.kept (grown_of_below hb) (by cases v.ownBlock with
    | none => exact .inl rfl
    | some g => exact .inr (by simp))
theorem own_lt {W : World} {base e size k : Nat} {v : Value} {xs : List Value} (h : W.ownsRow base e size v k xs) : some W.heap.size ≠ v.ownBlock := by
  rcases h.2 with ⟨rfl, _⟩ | ⟨g, cap, cur, rfl, _, hgb, _⟩
  · simp [Value.ownBlock]
  · intro e'
    obtain rfl : W.heap.size = g := by simpa [Value.ownBlock] using e'
    have := (Array.getElem?_eq_some_iff.1 hgb).1
    omega

set_option maxRecDepth 100000 in
set_option maxHeartbeats 4000000 in
theorem list_any (s : ByteArray) (w : World) (hs : s.size ≤ 4398046511104) :
    Calls Try.prog 11 #[.string s] w fun e W' => ∃ v, e = .returned (.tuple #[v, .int .i64 (errOf s), .int .i64 (lstAt s)]) ∧ W'.ownsRow w.heap.size 26 3 v (lstWords s).length (wdCells (lstWords s)) ∧ Below w.heap.size w W' := by
  refine (callsIn_wide (n := 6)).1 ?_
  have h1 : 1 ≤ 6 := by omega
  have hs' : s.size ≤ maxLen := by unfold maxLen; omega
  obtain ⟨i0, hi, hz0, hz1, hz2⟩ := info_parts Try.info26
  refine callsIn_of_wp_marks Try.func11 rfl trivial ?_ rfl
  simp only [Try.ntmps11, List.size_toArray, List.length_cons, List.length_nil, Nat.reduceAdd, Nat.reduceSub, Array.replicate_succ, Array.replicate_zero, List.push_toArray, List.append_toArray, List.nil_append, List.cons_append]
  gi_wp2_with fail
  refine ⟨trivial, ?_⟩
  refine (callsIn_wide.2 (all_any s _)).mono ?_
  rintro e w' ⟨rfl, rfl⟩
  gi_wp2
  have bL := ((Boxed.new w 31 (.slice none 0 0)).alloc (.cells #[.int .i64 0] 3)).alloc (.cells #[.string s] 9)
  have bE := (Boxed.new (w.alloc (.cells #[.slice none 0 0] 31)) 3 (.int .i64 0)).alloc (.cells #[.string s] 9)
  have bT := Boxed.new ((w.alloc (.cells #[.slice none 0 0] 31)).alloc (.cells #[.int .i64 0] 3)) 9 (.string s)
  simp only [World.size_alloc] at bE bT
  have hB0 : Below w.heap.size w (((w.alloc (.cells #[.slice none 0 0] 31)).alloc (.cells #[.int .i64 0] 3)).alloc (.cells #[.string s] 9)) := (((Below.refl _ w).alloc (Nat.le_refl _) _).alloc (by simp) _).alloc (by simp; omega) _
  have hsz : (((w.alloc (.cells #[.slice none 0 0] 31)).alloc (.cells #[.int .i64 0] 3)).alloc (.cells #[.string s] 9)).heap.size = w.heap.size + 3 := by simp
  obtain ⟨W0, hW0⟩ : ∃ W0, ((w.alloc (.cells #[.slice none 0 0] 31)).alloc (.cells #[.int .i64 0] 3)).alloc (.cells #[.string s] 9) = W0 := ⟨_, rfl⟩
  rw [hW0] at bL bE bT hB0 hsz ⊢
  clear hW0
  refine wpIn_rangeFunc_ownH rfl h1 (gf := 24) (lb := #[.pointer (some ⟨w.heap.size + 1 + 1, 0, none⟩)]) rfl trivial (enters_of Try.func24 (by kernel_rfl) rfl)
    (all_stops (6 - 1) (by omega) (w.heap.size + 1 + 1) s hs' W0 bT) kpBox_t (fun W l o o' _ h hc _ => kpBox_b W l o o' h hc) (Below.refl _ _) (fun _ => rfl)
    (fun (pre : List GWd) W => ((∃ v, Boxed W w.heap.size 31 v ∧ W.ownsRow w.heap.size 26 3 v pre.length (wdCells (pre.map (·.1))) ∧ True) ∧ Boxed W (w.heap.size + 1) 3 (.int .i64 (endFrom 0 (pre.map (·.1))))) ∧ Below w.heap.size w W)
    (fun _ _ _ => False)
    (OwnFrom.and (OwnFrom.and (Own.from (holdsRow_own w.heap.size w.heap.size 31 26 3 (fun pre : List GWd => pre.length) (fun pre : List GWd => wdCells (pre.map (·.1))) (fun _ _ => True)) _) (Own.from (boxed_own _ _ _) _)) (ownFrom_below (Nat.le_refl _) (by omega)))
    (fun _ _ _ _ _ hs _ _ => hs)
    ⟨⟨⟨_, bL, World.ownsRow_nil _ _ _ _, trivial⟩, bE⟩, hB0⟩
    (fun x a' W => ∃ Bx v, Boxed W w.heap.size 31 v ∧ some Bx ≠ v.ownBlock ∧ WdBox W Bx x.1 ∧ a' = { tmps := #[.string s, undef, .slice none 0 0, .int .i64 0, .int .i64 0, .pointer (some ⟨w.heap.size, 0, none⟩), .pointer (some ⟨w.heap.size + 1, 0, none⟩), .pointer (some ⟨Bx, 0, none⟩), undef, undef, undef, .string s, .func (.func 24) #[] #[.pointer (some ⟨w.heap.size + 1 + 1, 0, none⟩)], .agg #[.int .i64 x.1.kind, .string x.1.text, .int .i64 x.1.place], undef, undef, undef, undef, undef, undef, undef, undef, undef, undef, undef, undef, undef, undef, undef, undef, undef, undef, undef, undef, undef, undef], defers := [] })
    (fun x a' _ X Y row hs hg hr => by
      obtain ⟨Bx, v, h2, h3, h4, h5⟩ := hs
      exact ⟨Bx, v, boxed_own w.heap.size 31 (fun (_ : Unit) => v) () X Y row h2 hg (fun r e => (hr r e).2), h3, wdBox_kept h4 hg (fun r e => (hr r e).2), h5⟩)
    ?assign ?body ?done ?stop
  case assign =>
    rintro l pre x W K ⟨⟨⟨v, bv, hrow, _⟩, be⟩, hB⟩ hK
    gi_wp2
    exact hK _ _ ((KeepsOthers.alloc _ _).from _) (fun hb => hb.alloc _) ⟨⟨⟨v, bv.alloc _, hrow.alloc _, trivial⟩, be.alloc _⟩, hB.alloc hB.size _⟩ ⟨W.heap.size, v, bv.alloc _, own_lt hrow, WdBox.new W x.1, rfl⟩
  case body =>
    rintro l pre x a' W hl hr ⟨⟨⟨v, bv, hrow, _⟩, be⟩, hB⟩ ⟨Bx, v2, bv2, hne, hx, rfl⟩ hlt
    obtain rfl : v2 = v := boxed_inj bv2 bv
    clear bv2 hr
    have hx2 := x.2
    unfold maxLen at hx2
    have hlen := words_small s
    have hBw := hB.size
    have hn1 : Bx ≠ w.heap.size := fun e => by
      subst e
      have := (show W.heap[w.heap.size]? = _ from hx).symm.trans bv
      simp at this
    have hn2 : Bx ≠ w.heap.size + 1 := fun e => by
      subst e
      have := (show W.heap[w.heap.size + 1]? = _ from hx).symm.trans be
      simp at this
    have cL := bv.cell
    have c0 := hx.c0
    have c1 := hx.c1
    have c2 := hx.c2
    have hmax : maxLen = 9223372036854775807 := rfl
    gi_wp2_with (gi_at_builtin; refine wpListIn_append_own _ rfl _ _ 31 rfl w.heap.size 26 i0 (.agg #[.int .i64 0, .string ⟨#[]⟩, .int .i64 0]) 3 32 Try.underlying31 hi hz0 hz1 hz2 rfl (by decide) v2 pre.length (wdCells (pre.map (·.1))) rfl (hrow.alloc _) ⟨W.heap.size, 0, none⟩ 1 1 x.1.cells rfl rfl (World.news_of_block (heap_alloc_new W _)) (wd_one x.1) (by omega) (by omega) (by simp; omega) ?_; intro v' w1 hown' hgrow _; obtain ⟨g', cap', rfl⟩ := ownsRow_succ hown'; obtain ⟨hv1, hv2, hr2, hk2, hb2⟩ := bv.appended (by decide) hrow hB.size (Nat.le_refl _) hown' hgrow; have hc1 := hv1.cell; have hf1 := hv1.frozen; have hx1 := wdBox_grown (wdBox_alloc hx _) hgrow hne; have d1 := hx1.c1; have d2 := hx1.c2; have be1 := (be.alloc _).kept hgrow (be.not_row (by decide) hrow); have ce1 := be1.cell; have fe1 := be1.frozen)
    have be2 : Boxed (w1.setCell ⟨w.heap.size, 0, none⟩ (.slice (some ⟨g', 0, none⟩) (pre.length + 1) cap')) (w.heap.size + 1) 3 _ := be1.other (by omega) _
    have hr3 := hr2.kept (grownBy_setCell' _ (w.heap.size + 1) (.int .i64 ((x.1.place : Int) + (x.1.text.size : Int)))) (.inr (be2.not_row (by decide) hr2).symm)
    refine ⟨(hk2.trans (KeepsOthers.setCell _ _ _)).from _, fun hb => (((hb.alloc _).kept hgrow (hb.not_row (by decide) hrow)).other (by omega) _).other (by omega) _, ⟨⟨⟨_, hv2.other (by omega) _, ?_, trivial⟩, ?_⟩, (hB.trans hb2).setCell (p := ⟨w.heap.size + 1, 0, none⟩) (by simp) _⟩⟩
    · rw [List.map_append, List.map_cons, List.map_nil, wdCells_snoc, List.length_append]
      exact hr3
    · rw [List.map_append, List.map_cons, List.map_nil, endFrom_snoc, Int.natCast_add]
      exact be2.set _
  case done =>
    rintro D ys W hD hS ⟨⟨⟨v, bv, hrow, _⟩, be⟩, hB⟩ hK
    obtain ⟨z, hz, he, hst, hto, her⟩ := end_all s
    rw [hS, he] at be
    have cE := be.cell
    have HN : ∀ w, CallsIn Fence.wide (6 - 1) Try.prog 9 #[.string s, .int .i64 z] w fun e w' => e = .returned (Nx.val (nx s z)) ∧ Below w.heap.size w w' := fun w => callsIn_wide.2 (next_any s z w hs' hz)
    have hwd := nx_stop hst
    rcases hnx : nx s z with ⟨wd, to, er⟩
    rw [hnx] at hwd HN hto her
    simp only at hwd hto her
    subst hwd
    have HN' : Hid (∀ w, CallsIn Fence.wide (6 - 1) Try.prog 9 #[.string s, .int .i64 z] w fun e w' => e = .returned (.tuple #[.agg #[.int .i64 0, .string ⟨#[]⟩, .int .i64 0], .int .i64 to, .int .i64 er]) ∧ Below w.heap.size w w') := HN
    clear HN hnx hst
    cases herr : (er != 0)
    · gi_wp2_with fail
      refine ⟨trivial, ?_⟩
      refine (HN'.out _).mono ?_
      rintro e w1 ⟨rfl, hb1⟩
      have bv1 := (boxed_below bv hb1).alloc (.cells #[.int .i64 0, .string ⟨#[]⟩, .int .i64 0] 26)
      have cv1 := bv1.cell
      have hK1 : (w1.alloc (.cells #[.int .i64 0, .string ⟨#[]⟩, .int .i64 0] 26)).heap[D]? = some (.deferred (some [])) := by
        have hlt := (Array.getElem?_eq_some_iff.1 hK).1
        have := hb1.size
        rw [Below.heap_alloc _ _ _ (by omega), hb1.block D hlt]; exact hK
      have hR1 := (owns_below hrow hb1).alloc (.cells #[.int .i64 0, .string ⟨#[]⟩, .int .i64 0] 26)
      have hB1 : Below w.heap.size w (w1.alloc (.cells #[.int .i64 0, .string ⟨#[]⟩, .int .i64 0] 26)) := (hB.trans (hb1.mono hB.size)).alloc (by have := hB.size; have := hb1.size; omega) _
      gi_wp2
      refine ⟨by simp, .inl ⟨_, _, rfl, run_takeDeferred hK1, ?_⟩⟩
      have her0 : er = 0 := by simpa using herr
      refine ⟨_, results_tmp3 rfl _ _ _, v, ?_, ?_, hB1.trans (belowK_b (w := w) (Nat.le_refl _) _ D _ _ (by omega) hK1 rfl rfl)⟩
      · rw [her, lstAt, her, if_pos her0, her0]; rfl
      · rw [lstWords, her, if_pos her0, ← hS]
        simpa using ownsRow_putObj hR1 _ hK1 rfl
    · gi_wp2_with fail
      refine ⟨trivial, ?_⟩
      refine (HN'.out _).mono ?_
      rintro e w1 ⟨rfl, hb1⟩
      have hK1 : (w1.alloc (.cells #[.int .i64 0, .string ⟨#[]⟩, .int .i64 0] 26)).heap[D]? = some (.deferred (some [])) := by
        have hlt := (Array.getElem?_eq_some_iff.1 hK).1
        have := hb1.size
        rw [Below.heap_alloc _ _ _ (by omega), hb1.block D hlt]; exact hK
      have hB1 : Below w.heap.size w (w1.alloc (.cells #[.int .i64 0, .string ⟨#[]⟩, .int .i64 0] 26)) := (hB.trans (hb1.mono hB.size)).alloc (by have := hB.size; have := hb1.size; omega) _
      gi_wp2
      refine ⟨by simp, .inl ⟨_, _, rfl, run_takeDeferred hK1, ?_⟩⟩
      have her0 : er ≠ 0 := by simpa using herr
      refine ⟨_, results_tmp3 rfl _ _ _, .slice none 0 0, ?_, ?_, hB1.trans (belowK_b (w := w) (Nat.le_refl _) _ D _ _ (by omega) hK1 rfl rfl)⟩
      · rw [lstAt, her, if_neg her0, hto]; rfl
      · rw [lstWords, her, if_neg her0]
        exact World.ownsRow_nil _ _ _ _
  case stop =>
    rintro D c pre W _ _ h _
    exact h.elim
end Go.Proofs.Ytfkfehkbdmemnaa
