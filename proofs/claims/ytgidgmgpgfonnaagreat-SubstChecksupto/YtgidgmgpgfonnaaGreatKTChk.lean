import Derived.Test.YtgidgmgpgfonnaaGreatKTHas
/- What Check of package terms answers of any term by any signature. -/
namespace Go.Proofs.YtgidgmgpgfonnaaGreat
open Go.RowKit Go.Shelf Go.Deep

attribute [local go_sem] Oper.semAt_some

def errQ (S : List Sym) : List Pl → Int
  | [] => 0
  | p :: r => thenC (nodeErr S p.2.1 (lenF p.2.2)) (errQ S r)
theorem then_assoc (a b c : Int) : thenC (thenC a b) c = thenC a (thenC b c) := by
  unfold thenC
  by_cases h : a = 0
  · rw [if_pos h, if_pos h]
  · rw [if_neg h, if_neg h, if_neg h]
theorem err_append (S : List Sym) : ∀ p q : List Pl, errQ S (p ++ q) = thenC (errQ S p) (errQ S q)
  | [], q => rfl
  | a :: p, q => by
    show thenC _ (errQ S (p ++ q)) = _
    rw [err_append S p q, ← then_assoc]; rfl
theorem err_places (S : List Sym) : ∀ (F : Fo) (path : List Int) (i : Nat), errQ S (placesF path i F) = errF S F
  | .nil, _, _ => rfl
  | .node _ _ x l r, path, i => by
    rw [placesF, err_append, err_places S r, errF, errQ, err_places S l]
theorem err_term (S : List Sym) (x : ByteArray × Int) (l : Fo) (path : List Int) : errQ S (placesT path x l) = errT S x l := by
  rw [placesT, errQ, err_places]; rfl

theorem results_errno {fn : Func} {p : Tmp} (h : fn.results = #[.cell p 33]) {tmps : Array Value} {w : World} {B : Nat} {v : Value} (hp : tmps.getD p undef = .pointer (some ⟨B, 0, none⟩)) (hb : Boxed w B 33 v) : (results fn tmps).run Tryz.prog w = .ok v w := by
  have hc := hb.cell
  rw [results_cellH h, hp]
  simp [go_sem, hc]

theorem Leaves.setR {n0 b B : Nat} {e : El} {W : World} {t : TypeId} {v : Value} (h : W.ownsRow b 3 1 e.pv e.path.length (intsV e.path)) (hB : Boxed W B t v) (hn : n0 ≤ B) (hlt : B < b) (h1 : t ≠ 27) (h2 : t ≠ 98) (h3 : t ≠ 116) (h4 : t ≠ 83) (u : Value) : Leaves n0 e W (W.setCell ⟨B, 0, none⟩ u) :=
  ⟨(Below.refl _ _).setCell (p := ⟨B, 0, none⟩) hn u, fun k cs t' fr hk ht => by
    refine (Below.heap_setCell W ⟨B, 0, none⟩ u k (fun e' => ?_)).trans hk
    have e'' : k = B := e'
    subst e''
    rw [show W.heap[k]? = _ from hB] at hk
    cases hk
    rcases ht with rfl | rfl | rfl | rfl | hg
    · exact h1 rfl
    · exact h2 rfl
    · exact h3 rfl
    · exact h4 rfl
    · have := (owns_cells h hg.symm).1
      omega⟩

set_option maxRecDepth 100000 in
set_option maxHeartbeats 4000000 in
theorem check_any (S : List Sym) (sa : Option Addr) (sn sc : Nat) (x : ByteArray × Int) (l : Fo) (a : Option Addr) (c : Nat) (w : World) (hS : SigAt w sa sn S) (hT : TmAt w x a c l) :
    Calls Tryz.prog 64 #[.slice sa sn sc, .agg #[.string x.1, .int .i64 x.2, .slice a (lenF l) c]] w fun e w' => e = .returned (.int .i64 (chk S x l)) ∧ Below w.heap.size w w' := by
  refine (callsIn_wide (n := 6)).1 ?_
  have h1 : 1 ≤ 6 := by omega
  refine callsIn_of_wp_marks Tryz.func64 rfl trivial ?_ rfl
  simp only [Tryz.ntmps64, List.size_toArray, List.length_cons, List.length_nil, Nat.reduceAdd, Nat.reduceSub, Array.replicate_succ, Array.replicate_zero, List.push_toArray, List.append_toArray, List.nil_append, List.cons_append]
  gi_wp2_with fail
  refine ⟨trivial, ?_⟩
  refine (callsIn_wide.2 (places_any x a (lenF l) c _)).mono ?_
  rintro e w' ⟨rfl, rfl⟩
  gi_wp2
  obtain ⟨W0, hW0⟩ : ∃ W0, (((((w.alloc (.cells #[.slice sa sn sc] 23)).alloc (.cells #[.string x.1, .int .i64 x.2, .slice a (lenF l) c] 27)).alloc (.cells #[.int .i64 0] 33)).alloc (.cells #[.int .i64 0] 33)).alloc (.cells #[.int .i64 0] 3)).alloc (.cells #[.string x.1, .int .i64 x.2, .slice a (lenF l) c] 27) = W0 := ⟨_, rfl⟩
  have hB0 : Below w.heap.size w W0 := by rw [← hW0]; exact ((((((Below.refl _ w).alloc (Nat.le_refl _) _).alloc (by simp) _).alloc (by simp; omega) _).alloc (by simp; omega) _).alloc (by simp; omega) _).alloc (by simp; omega) _
  have hsz : W0.heap.size = w.heap.size + 6 := by rw [← hW0]; simp
  have bS : Boxed W0 w.heap.size 23 (.slice sa sn sc) := by rw [← hW0]; exact (((((Boxed.new w 23 _).alloc _).alloc _).alloc _).alloc _).alloc _
  have bR : Boxed W0 (w.heap.size + 1 + 1) 33 (.int .i64 0) := by
    have := (((Boxed.new ((w.alloc (.cells #[.slice sa sn sc] 23)).alloc (.cells #[.string x.1, .int .i64 x.2, .slice a (lenF l) c] 27)) 33 (.int .i64 0)).alloc (.cells #[.int .i64 0] 33)).alloc (.cells #[.int .i64 0] 3)).alloc (.cells #[.string x.1, .int .i64 x.2, .slice a (lenF l) c] 27)
    simp only [World.size_alloc] at this
    rw [← hW0]; exact this
  have bF : Boxed W0 (w.heap.size + 1 + 1 + 1) 33 (.int .i64 0) := by
    have := ((Boxed.new (((w.alloc (.cells #[.slice sa sn sc] 23)).alloc (.cells #[.string x.1, .int .i64 x.2, .slice a (lenF l) c] 27)).alloc (.cells #[.int .i64 0] 33)) 33 (.int .i64 0)).alloc (.cells #[.int .i64 0] 3)).alloc (.cells #[.string x.1, .int .i64 x.2, .slice a (lenF l) c] 27)
    simp only [World.size_alloc] at this
    rw [← hW0]; exact this
  have bN : Boxed W0 (w.heap.size + 1 + 1 + 1 + 1) 3 (.int .i64 0) := by
    have := (Boxed.new ((((w.alloc (.cells #[.slice sa sn sc] 23)).alloc (.cells #[.string x.1, .int .i64 x.2, .slice a (lenF l) c] 27)).alloc (.cells #[.int .i64 0] 33)).alloc (.cells #[.int .i64 0] 33)) 3 (.int .i64 0)).alloc (.cells #[.string x.1, .int .i64 x.2, .slice a (lenF l) c] 27)
    simp only [World.size_alloc] at this
    rw [← hW0]; exact this
  have bT : TBox W0 (w.heap.size + 1 + 1 + 1 + 1 + 1) x a (lenF l) c := by
    have := TBox.new (((((w.alloc (.cells #[.slice sa sn sc] 23)).alloc (.cells #[.string x.1, .int .i64 x.2, .slice a (lenF l) c] 27)).alloc (.cells #[.int .i64 0] 33)).alloc (.cells #[.int .i64 0] 33)).alloc (.cells #[.int .i64 0] 3)) x a (lenF l) c
    simp only [World.size_alloc] at this
    rw [← hW0]; exact this
  rw [hW0]
  clear hW0
  refine range_own (gf := 99) (lb := #[.pointer (some ⟨w.heap.size + 1 + 1 + 1 + 1 + 1, 0, none⟩)]) rfl (enters_of Tryz.func99 (by kernel_rfl) rfl)
    (places1_seq w W0 40 (w.heap.size + 1 + 1 + 1 + 1 + 1) x l a c hT bT hB0 (by omega)) (Below.refl _ _) (fun _ => rfl)
    (fun _ _ _ h hc => h.cl hc) (fun _ _ _ hc => Leaves.of_cl hc (by omega)) (fun _ _ _ _ h k => h.trans k)
    (fun pre W => (Boxed W w.heap.size 23 (.slice sa sn sc) ∧ (∃ v, Boxed W (w.heap.size + 1 + 1) 33 v) ∧ Boxed W (w.heap.size + 1 + 1 + 1) 33 (.int .i64 (errQ S (pre.map El.info))) ∧ Boxed W (w.heap.size + 1 + 1 + 1 + 1) 3 (.int .i64 (pre.length : Int)) ∧ Below w.heap.size w W) ∧ pre.length ≤ 40)
    (fun c pre W => c = .ret ∧ (Boxed W (w.heap.size + 1 + 1) 33 (.int .i64 34) ∧ Below w.heap.size w W) ∧ 40 < pre.length)
    (fun _ _ _ ⟨⟨h1, ⟨v, h2⟩, h3, h4, h5⟩, h6⟩ hm => ⟨⟨boxed_mv h1 hm (by omega), ⟨v, boxed_mv h2 hm (by omega)⟩, boxed_mv h3 hm (by omega), boxed_mv h4 hm (by omega), below_mv h5 hm (by omega)⟩, h6⟩)
    (fun _ _ _ _ h hm => ⟨h.1, ⟨boxed_mv h.2.1.1 hm (by omega), below_mv h.2.1.2 hm (by omega)⟩, h.2.2⟩) (fun _ _ h => h.2) ⟨⟨bS, ⟨_, bR⟩, bF, bN, hB0⟩, by simp⟩
    (fun e a' W => ∃ Bx, TBox W Bx e.x e.a (lenF e.l) e.c ∧ a' = { tmps := #[.slice sa sn sc, .agg #[.string x.1, .int .i64 x.2, .slice a (lenF l) c], .pointer (some ⟨w.heap.size, 0, none⟩), .pointer (some ⟨w.heap.size + 1, 0, none⟩), .pointer (some ⟨w.heap.size + 1 + 1, 0, none⟩), .pointer (some ⟨w.heap.size + 1 + 1 + 1, 0, none⟩), .pointer (some ⟨w.heap.size + 1 + 1 + 1 + 1, 0, none⟩), undef, .pointer (some ⟨Bx, 0, none⟩), .agg #[.string x.1, .int .i64 x.2, .slice a (lenF l) c], .func (.func 99) #[] #[.pointer (some ⟨w.heap.size + 1 + 1 + 1 + 1 + 1, 0, none⟩)], e.pv, .agg #[.string e.x.1, .int .i64 e.x.2, .slice e.a (lenF e.l) e.c], undef, undef, undef, undef, undef, undef, undef, undef, undef, undef], defers := [] })
    (fun _ _ _ _ ⟨Bx, h, k⟩ hc => ⟨Bx, h.cl hc, k⟩) ?assign ?body ?done ?stop
  case assign =>
    rintro pre e W K _ _ hK m
    simp only [El.encs]
    gi_wp2
    exact hK _ _ ((Below.refl _ _).alloc (Nat.le_refl _) _) ⟨_, TBox.new W e.x e.a (lenF e.l) e.c, by simp⟩
  case body =>
    rintro pre e a' W _ ⟨⟨bs, ⟨vr, br⟩, bf, bn, hB⟩, hl⟩ hF ⟨Bx, bx, rfl⟩ hlt m
    have cn := bn.cell
    have fn := bn.frozen
    have hBw := hB.size
    have n1 := bn.set (.int .i64 ((pre.length : Int) + 1))
    have cn1 := n1.cell
    have hne : w.heap.size + 1 + 1 ≠ w.heap.size + 1 + 1 + 1 + 1 := by omega
    have r1 := br.other hne (.int .i64 ((pre.length : Int) + 1))
    have f1 := bf.other (show w.heap.size + 1 + 1 + 1 ≠ w.heap.size + 1 + 1 + 1 + 1 by omega) (.int .i64 ((pre.length : Int) + 1))
    have s1 := bs.other (show w.heap.size ≠ w.heap.size + 1 + 1 + 1 + 1 by omega) (.int .i64 ((pre.length : Int) + 1))
    have hL1 : Leaves w.heap.size e W (W.setCell ⟨w.heap.size + 1 + 1 + 1 + 1, 0, none⟩ (.int .i64 ((pre.length : Int) + 1))) := Leaves.set hF bn (by omega) (by omega) (by decide) (by decide) (by decide) (by decide) _
    have hB1 : Below w.heap.size w (W.setCell ⟨w.heap.size + 1 + 1 + 1 + 1, 0, none⟩ (.int .i64 ((pre.length : Int) + 1))) := hB.setCell (p := ⟨w.heap.size + 1 + 1 + 1 + 1, 0, none⟩) (by show w.heap.size ≤ w.heap.size + 1 + 1 + 1 + 1; omega) _
    have hk1 : KeepsOthers W (W.setCell ⟨w.heap.size + 1 + 1 + 1 + 1, 0, none⟩ (.int .i64 ((pre.length : Int) + 1))) := KeepsOthers.setCell _ _ _
    have x1 := bx.leaves hL1
    have cr := r1.cell
    have fr := r1.frozen
    have cf := f1.cell
    have cs := s1.cell
    have q0 := x1.c0; have q1 := x1.c1; have q2 := x1.c2
    by_cases h40 : 40 ≤ pre.length
    · have h41 : decide ((40 : Int) < (pre.length : Int) + 1) = true := by simp; omega
      gi_wp2
      refine ⟨(hk1.trans (KeepsOthers.setCell _ _ _)).from _, rfl, ⟨r1.set _, hB1.setCell (p := ⟨w.heap.size + 1 + 1, 0, none⟩) (by show w.heap.size ≤ w.heap.size + 1 + 1; omega) _⟩, by simp; omega⟩
    · have h41 : decide ((40 : Int) < (pre.length : Int) + 1) = false := by simp; omega
      have hnew : errQ S ((pre ++ [e]).map El.info) = thenC (errQ S (pre.map El.info)) (nodeErr S e.x (lenF e.l)) := by
        rw [List.map_append, err_append]
        congr 1
        show thenC _ 0 = _
        unfold thenC
        split
        · rename_i h; exact h.symm
        · rfl
      have hlen : ((pre ++ [e]).length : Int) = (pre.length : Int) + 1 := by simp
      cases hz : (errQ S (pre.map El.info) == 0)
      · have hz' : errQ S ((pre ++ [e]).map El.info) = errQ S (pre.map El.info) := by rw [hnew]; unfold thenC; rw [if_neg (by simpa using hz)]
        gi_wp2
        refine ⟨hk1.from _, hL1, ⟨s1, ⟨_, r1⟩, ?_, ?_, hB1⟩, by simp; omega⟩
        · rw [hz']; exact f1
        · rw [hlen]; exact n1
      · have hz' : errQ S ((pre ++ [e]).map El.info) = nodeErr S e.x (lenF e.l) := by rw [hnew]; unfold thenC; rw [if_pos (by simpa using hz)]
        have HN : ∀ (r m : Nat), CallsIn (Fence.wide.inRound r) m Tryz.prog 85 #[.slice sa sn sc, .agg #[.string e.x.1, .int .i64 e.x.2, .slice e.a (lenF e.l) e.c]] (W.setCell ⟨w.heap.size + 1 + 1 + 1 + 1, 0, none⟩ (.int .i64 ((pre.length : Int) + 1))) fun e' w' => e' = .returned (.int .i64 (nodeErr S e.x (lenF e.l))) ∧ Below (W.setCell ⟨w.heap.size + 1 + 1 + 1 + 1, 0, none⟩ (.int .i64 ((pre.length : Int) + 1))).heap.size (W.setCell ⟨w.heap.size + 1 + 1 + 1 + 1, 0, none⟩ (.int .i64 ((pre.length : Int) + 1))) w' := fun r m =>
          CallsIn.inRound r (callsIn_wide.2 (checkNode_any S sa sn sc e.x e.a (lenF e.l) e.c _ (hS.below hB1) hF.at_.sizes.name))
        gi_wp2_with fail
        refine ⟨trivial, fun h => (by cases h), ?_⟩
        refine (HN _ _).mono ?_
        rintro e' w2 ⟨rfl, hb2⟩
        have f2 := boxed_below f1 hb2
        have r2 := boxed_below r1 hb2
        have s2 := boxed_below s1 hb2
        have n2 := boxed_below n1 hb2
        have cf2 := f2.cell
        have ff2 := f2.frozen
        have hr1 : (W.setCell ⟨w.heap.size + 1 + 1 + 1 + 1, 0, none⟩ (.int .i64 ((pre.length : Int) + 1))).ownsRow (W0.heap.size + 2) 3 1 e.pv e.path.length (intsV e.path) := owns_block hF.row (fun g hg => by
          have := (owns_cells hF.row hg).1
          exact Below.heap_setCell W _ _ g (by show g ≠ w.heap.size + 1 + 1 + 1 + 1; omega))
        have hr2 := owns_below hr1 hb2
        have hL2 : Leaves w.heap.size e W w2 := hL1.trans (Leaves.of_cl (Cl.of_below hb2 (Nat.le_refl _)) hB1.size)
        have hL3 := hL2.trans (Leaves.setR hr2 f2 (show w.heap.size ≤ w.heap.size + 1 + 1 + 1 by omega) (by omega) (by decide) (by decide) (by decide) (by decide) (.int .i64 (nodeErr S e.x (lenF e.l))))
        have hB3 : Below w.heap.size w w2 := hB1.trans (hb2.mono hB1.size)
        have hk3 : KeepsFrom W0.heap.size W (w2.setCell ⟨w.heap.size + 1 + 1 + 1, 0, none⟩ (.int .i64 (nodeErr S e.x (lenF e.l)))) := ((hk1.trans ⟨hb2.size, fun k o hk _ => (hb2.block k (Array.getElem?_eq_some_iff.1 hk).1).trans hk⟩).trans (KeepsOthers.setCell _ _ _)).from _
        gi_wp2
        refine ⟨hk3, hL3, ⟨s2.other (by omega) _, ⟨_, r2.other (by omega) _⟩, ?_, ?_, hB3.setCell (p := ⟨w.heap.size + 1 + 1 + 1, 0, none⟩) (by show w.heap.size ≤ w.heap.size + 1 + 1 + 1; omega) _⟩, by simp; omega⟩
        · rw [hz']; exact f2.set _
        · rw [hlen]; exact n2.other (by omega) _
  case done =>
    rintro ys W hS' ⟨⟨bs, ⟨vr, br⟩, bf, bn, hB⟩, hl⟩ hK
    rw [hS', err_term] at bf
    have hys : ys.length = nodesF l + 1 := by
      have := congrArg List.length hS'
      rw [List.length_map, placesT, List.length_cons, places_len] at this
      exact this
    have hE : chk S x l = errT S x l := by unfold chk; rw [if_neg (by omega)]
    have cf := bf.cell
    have cr := br.cell
    have fr := br.frozen
    gi_wp2
    have hK2 := (KeepsOthers.setCell W ⟨w.heap.size + 1 + 1, 0, none⟩ (.int .i64 (errT S x l))).same _ _ hK rfl
    refine ⟨by simp, .inl ⟨_, _, rfl, run_takeDeferred hK2, ?_⟩⟩
    exact ⟨_, results_errno rfl rfl (boxed_putObj (br.set _) hK2 rfl _), by rw [hE], (hB.setCell (p := ⟨w.heap.size + 1 + 1, 0, none⟩) (by show _ ≤ w.heap.size + 1 + 1; omega) _).trans (below_putObj _ (by omega) _)⟩
  case stop =>
    rintro c pre W ⟨t, ht⟩ ⟨rfl, ⟨br, hB⟩, hlen⟩ hK
    have hys : pre.length ≤ nodesF l + 1 := by
      have := congrArg List.length ht
      rw [List.length_append, List.length_map, placesT, List.length_cons, places_len] at this
      omega
    have hE : chk S x l = 34 := by unfold chk; rw [if_pos (by omega)]
    gi_wp2
    refine ⟨by simp, .inl ⟨_, _, rfl, run_takeDeferred hK, ?_⟩⟩
    exact ⟨_, results_errno rfl rfl (boxed_putObj br hK rfl _), by rw [hE], hB.trans (below_putObj _ (by omega) _)⟩
end Go.Proofs.YtgidgmgpgfonnaaGreat
