/- Rows put together; a way turned; boxes. -/
import Derived.Test.YtdpdpjfnanjmgaaDoorSpAm
import Derived.Test.YtdpdpjfnanjmgaaDoorSpAg
import Derived.OrdersHeld
import Derived.Shelf.RegionOpenPlain
import Derived.Deep.CutRange
import Derived.Sort.CutIn
import Derived.Deep.RegionHeld
namespace Go.Proofs.YtdpdpjfnanjmgaaDoor
open Go.RowKit Go.Shelf

attribute [local go_sem] Oper.semAt_some
theorem wp_calm {P : Program} {c : Code} {K : Act → World → Prop} {Q : Exit → Act → World → Prop} {a : Act} {w : World} (h : c.wp P (Exit.then K fun _ _ _ => False) a w) : c.wp P (Exit.then K Q) a w := by
  refine Code.wp_mono (fun e a w hq => ?_) h
  cases e with
  | normal => exact hq
  | _ => exact (show False from hq).elim
/-- Two rows put together in new memory. -/
theorem app_two {w : World} {pa qa : Option Addr} {pc qc : Nat} {ps qs : List Int} (hI : IntsAt w pa ps) (hJ : IntsAt w qa qs) (hp : ps.length ≤ 1000) (hq : qs.length ≤ 1000) (ha : pa = none → pc = 0) (hb : qa = none → qc = 0) :
    ∃ p1 c1 w1, (∀ ty, (Builtin.append_ #[23, 23] ty #[.slice (some ⟨w.heap.size, 0, none⟩) 0 0, .slice pa ps.length pc]).run Tryd.prog (w.alloc (.cells #[] 3)).drew = .ok (.slice p1 ps.length c1) w1) ∧ Below w.heap.size w w1 ∧
      ∃ p2 c2 w2, (∀ ty, (Builtin.append_ #[23, 23] ty #[.slice p1 ps.length c1, .slice qa qs.length qc]).run Tryd.prog w1 = .ok (.slice p2 (ps.length + qs.length) c2) w2) ∧ CRow w2 w.heap.size p2 c2 (ps ++ qs) ∧ Below w.heap.size w w2 := by
  have b0 : Below w.heap.size w (w.alloc (.cells #[] 3)).drew := (alloc_below0 w _).drew
  have hE : (w.alloc (.cells #[] 3)).drew.ownsRow w.heap.size 3 1 (.slice (some ⟨w.heap.size, 0, none⟩) 0 0) 0 [] := ⟨rfl, .inr ⟨w.heap.size, 0, #[], rfl, Nat.le_refl _, World.alloc_heap_new w _, Nat.le_refl _, Nat.zero_le _, rfl, rfl⟩⟩
  obtain ⟨p1, c1, w1, hr1, hA1, hG1⟩ := run_appI 23 w.heap.size _ 0 [] _ hE pa ps.length pc (cAll ps) (src_i pc (hI.below b0) ha) (cAll_one ps) (by omega) b0.size
  have hb1 : Below w.heap.size w w1 := b0.trans ((fr_grown hG1).below (fun k hk => by have h7 : some w.heap.size = some k := hk; have := Option.some.inj h7; omega) b0.size)
  rw [Nat.zero_add] at hr1 hA1
  rw [List.nil_append] at hA1
  obtain ⟨p2, c2, w2, hr2, hA2, hG2⟩ := run_appI 23 w.heap.size _ ps.length _ _ hA1 qa qs.length qc (cAll qs) (src_i qc (hJ.below hb1) hb) (cAll_one qs) (by omega) hb1.size
  have hb2 : Below w.heap.size w w2 := hb1.trans ((fr_grown hG2).below (fun k hk => (own_blk hA1 hk).1) hb1.size)
  refine ⟨p1, c1, w1, fun _ => hr1, hb1, p2, c2, w2, fun _ => hr2, ?_, hb2⟩
  have h9 : cAll ps ++ cAll qs = cAll (ps ++ qs) := by unfold cAll; rw [List.map_append]
  rw [h9] at hA2
  have h8 : (ps ++ qs).length = ps.length + qs.length := List.length_append
  unfold CRow
  rw [h8]
  exact hA2
theorem ints_take {w : World} {b o : Nat} {k : List Nat} (h : IntsAt w (some ⟨b, o, none⟩) (up k)) (n : Nat) : IntsAt w (some ⟨b, o, none⟩) (up (k.take n)) := by
  have hs := h.small
  rw [up_len] at hs
  refine ⟨by rw [up_len, List.length_take]; omega, fun i hi => ?_⟩
  have hi' : i < (k.take n).length := by rw [up_len] at hi; exact hi
  have hik : i < k.length := by rw [List.length_take] at hi'; omega
  obtain ⟨b', o', e, hc⟩ := up_int h hik
  cases e
  refine ⟨_, _, rfl, ?_⟩
  rw [up_at hi', hc, List.getD_eq_getElem?_getD, List.getD_eq_getElem?_getD, List.getElem?_take_of_lt (by rw [List.length_take] at hi'; omega)]
theorem ints_drop {w : World} {b o : Nat} {k : List Nat} (h : IntsAt w (some ⟨b, o, none⟩) (up k)) (n : Nat) : IntsAt w (some ⟨b, o + n, none⟩) (up (k.drop n)) := by
  have hs := h.small
  rw [up_len] at hs
  refine ⟨by rw [up_len, List.length_drop]; omega, fun i hi => ?_⟩
  have hi' : i < (k.drop n).length := by rw [up_len] at hi; exact hi
  have hik : n + i < k.length := by rw [List.length_drop] at hi'; omega
  obtain ⟨b', o', e, hc⟩ := up_int h hik
  cases e
  refine ⟨_, _, rfl, ?_⟩
  rw [up_at hi', Nat.add_assoc, hc, List.getD_eq_getElem?_getD, List.getD_eq_getElem?_getD, List.getElem?_drop]
theorem wpIn_calm {F : Fence} {n : Nat} {P : Program} {c : Code} {K : Act → World → Prop} {Q : Exit → Act → World → Prop} {a : Act} {w : World} (h : c.wpIn F n P (Exit.then K fun _ _ _ => False) a w) : c.wpIn F n P (Exit.then K Q) a w := by
  refine Code.wpIn_mono (fun e a w hq => ?_) h
  cases e with
  | normal => exact hq
  | _ => exact (show False from hq).elim
/-- The held walk, in a round. -/
theorem wpIn_region_held {P : Program} {n l id : Nat} {ops : List Oper} {Q : Exit → Act → World → Prop} (S : World → Prop) {a : Act} {w : World} (hm : P.follows .mixedOrders = true) (hd : noDefA ops.toArray = true) (hQ : ¬ LetsOut Q) (hS : S w.drew)
    (h : S w.drew → wpAnyH P .any ops.toArray Q S ops.toArray.size (Array.replicate ops.toArray.size false) a w.drew) : (Code.region id ops.toArray true).wpIn (Fence.wide.inRound l) n P Q a w :=
  wpIn_region_round hm hd hQ (wpAny_of_held _ _ _ _ (h hS))
/-- An append to a row of rows of one's own. -/
theorem appw {V : World} {base : Nat} {v : Value} {nn : Nat} {xs : List Value} (hown : V.ownsRow base 23 1 v nn xs) (hbase : base ≤ V.heap.size) {g o mm : Nat} {L : List Value} (hL : ∀ j u, L[j]? = some u → V.cell? ⟨g, o + j, none⟩ = some u) (hlen : L.length = mm) (h1 : ∀ u ∈ L, u.oneCell' = true) (hb : nn + mm ≤ 1000) (cx : Nat) :
    ∃ (p : Option Addr) (c : Nat) (w' : World), (∀ ty, (Builtin.append_ #[36, 36] ty #[v, .slice (some ⟨g, o, none⟩) mm cx]).run Tryd.prog V = .ok (.slice p (nn + mm) c) w') ∧ w'.ownsRow base 23 1 (.slice p (nn + mm) c) (nn + mm) (xs ++ L) ∧ Below base V w' ∧ ∀ (B : Nat) (cs : Array Value), V.heap[B]? = some (.cells cs 36 (0, 0)) → w'.heap[B]? = some (.cells cs 36 (0, 0)) := by
  obtain ⟨i0, hi0, hz0, hz1, hz2⟩ := info_parts Tryd.info23
  obtain ⟨p, c, w', hr, ho, hf, -⟩ := run_appG (P := Tryd.prog) 36 36 23 i0 _ 24 Tryd.underlying36 hi0 hz0 hz1 hz2 rfl (by omega) base v nn xs V hown (some ⟨g, o, none⟩) mm cx L (.inr ⟨_, rfl, hlen, fun j u hj => by rw [Addr.add_lit]; exact hL j u hj⟩) h1 (by omega) hbase
  refine ⟨p, c, w', fun _ => hr, ho, hf.below (fun q hq => (own_blk hown hq).1) hbase, fun B cs hB => (hf.same B (Array.getElem?_eq_some_iff.1 hB).1 fun h => ?_).trans hB⟩
  obtain ⟨_, _, cs', h9⟩ := own_blk hown h
  rw [hB] at h9
  cases h9
/-- The box is written last. -/
theorem turned_fin {W2 V : World} {B T c : Nat} {p : Option Addr} {v0 : Value} {xs : List Value} (hb : Below W2.heap.size W2 V) (hB : W2.heap.size ≤ B) (hbox : V.heap[B]? = some (.cells #[v0] 36 (0, 0))) (hown : V.ownsRow W2.heap.size 23 1 (.slice p T c) T xs) :
    (V.setCell ⟨B, 0, none⟩ (.slice p T c)).heap[B]? = some (.cells #[.slice p T c] 36 (0, 0)) ∧ (V.setCell ⟨B, 0, none⟩ (.slice p T c)).ownsRow W2.heap.size 23 1 (.slice p T c) T xs ∧ Below W2.heap.size W2 (V.setCell ⟨B, 0, none⟩ (.slice p T c)) := by
  refine ⟨block_set hbox _, own_same hown fun b hv => ?_, hb.setCell (p := ⟨B, 0, none⟩) hB _⟩
  obtain ⟨_, _, cs', h9⟩ := own_blk hown hv
  refine set_far (fun e => ?_) _
  rw [e, hbox] at h9
  cases h9
/-- An empty row. -/
theorem own_empty {V : World} {base q : Nat} (hq : base ≤ q) (h : V.heap[q]? = some (.cells #[] 23 (0, 0))) : V.ownsRow base 23 1 (.slice (some ⟨q, 0, none⟩) 0 0) 0 [] := ⟨rfl, .inr ⟨q, 0, #[], rfl, hq, h, Nat.le_refl _, Nat.zero_le _, rfl, rfl⟩⟩
/-- A way turned, as a table of numbers. -/
theorem turned_rows {W2 V : World} {bs g K T n : Nat} {rows : List (List Nat)} {cl : List Value} {p : Option Addr} {c : Nat} (hway : WayAt W2 bs g K T rows) (hT : rows.length = T) (hn : n ≤ T) (hT5 : T ≤ 5) (hcl : cl.length = T) (hc : ∀ j u, cl[j]? = some u → W2.cell? ⟨g, j, none⟩ = some u) (hb : Below W2.heap.size W2 V) (hown : V.ownsRow W2.heap.size 23 1 (.slice p T c) T (cl.drop n ++ cl.take n)) :
    RowsAt V p ((rows.drop n ++ rows.take n).map up) := by
  have hlen : (rows.drop n ++ rows.take n).length = T := by rw [List.length_append, List.length_drop, List.length_take]; omega
  refine ⟨by rw [List.length_map, hlen]; unfold maxLen; omega, fun i hi => ?_⟩
  rw [List.length_map] at hi
  have hiT : i < T := by omega
  have hlx : (cl.drop n ++ cl.take n).length = T := by rw [List.length_append, List.length_drop, List.length_take]; omega
  obtain ⟨g2, rfl, h2⟩ := own_cell hown (i := i) (by omega)
  obtain ⟨q, hq, hr, hv⟩ : ∃ q, ∃ hq : q < rows.length, (rows.drop n ++ rows.take n)[i] = rows[q] ∧ (cl.drop n ++ cl.take n)[i]'(by omega) = cl[q]'(by omega) := by
    by_cases h : i < T - n
    · refine ⟨n + i, by omega, ?_, ?_⟩
      · rw [List.getElem_append_left (by rw [List.length_drop]; omega), List.getElem_drop]
      · rw [List.getElem_append_left (by rw [List.length_drop]; omega), List.getElem_drop]
    · refine ⟨i - (T - n), by omega, ?_, ?_⟩
      · rw [List.getElem_append_right (by rw [List.length_drop]; omega), List.getElem_take]
        congr 1
        rw [List.length_drop]; omega
      · rw [List.getElem_append_right (by rw [List.length_drop]; omega), List.getElem_take]
        congr 1
        rw [List.length_drop]; omega
  obtain ⟨pr, cr, h3, h4, h5⟩ := hway.row hq
  have h6 := hc q _ (List.getElem?_eq_getElem (by omega))
  rw [h3] at h6
  rw [hv, ← Option.some.inj h6] at h2
  refine ⟨g2, 0, pr, cr, rfl, ?_, ?_⟩
  · rw [Nat.zero_add, h2, List.getElem_map, up_len, hr, h5]
  · rw [List.getElem_map, hr]; exact h4.below hb
/-- A deal's box and a box for the answer. -/
theorem deal_boxes (w : World) (v : Array Value) : ∃ W1, (w.alloc (.cells v 29)).alloc (.cells #[.bool false] 4) = W1 ∧ Below w.heap.size w W1 ∧ W1.heap[w.heap.size]? = some (.cells v 29 (0, 0)) ∧ W1.heap[w.heap.size + 1]? = some (.cells #[.bool false] 4 (0, 0)) ∧ W1.heap.size = w.heap.size + 2 := by
  have b1 := alloc_below0 w (.cells v 29)
  have b2 := alloc_below0 (w.alloc (.cells v 29)) (.cells #[.bool false] 4)
  refine ⟨_, rfl, b1.trans (b2.mono (by simp)), (b2.block _ (by simp)).trans (World.alloc_heap_new w _), ?_, by simp⟩
  have h9 := World.alloc_heap_new (w.alloc (.cells v 29)) (.cells #[.bool false] 4)
  rw [World.size_alloc] at h9
  exact h9
/-- The two appends of a way that is turned. -/
theorem turn_app1 {W2 V : World} {g T n : Nat} {cl : List Value} (hn : n ≤ T) (hT5 : T ≤ 5) (hcl : cl.length = T) (hc : ∀ j u, cl[j]? = some u → W2.cell? ⟨g, j, none⟩ = some u) (h1 : ∀ u ∈ cl, u.oneCell' = true) (hb : Below W2.heap.size W2 V) {q : Nat} (hq : W2.heap.size ≤ q) (h : V.heap[q]? = some (.cells #[] 23 (0, 0))) :
    ∃ (p : Option Addr) (c : Nat) (w' : World), (∀ ty, (Builtin.append_ #[36, 36] ty #[.slice (some ⟨q, 0, none⟩) 0 0, .slice (some ⟨g, n, none⟩) (T - n) (T - n)]).run Tryd.prog V = .ok (.slice p (T - n) c) w') ∧ w'.ownsRow W2.heap.size 23 1 (.slice p (T - n) c) (T - n) (cl.drop n) ∧ Below W2.heap.size W2 w' ∧ ∀ (B : Nat) (cs : Array Value), V.heap[B]? = some (.cells cs 36 (0, 0)) → w'.heap[B]? = some (.cells cs 36 (0, 0)) := by
  obtain ⟨p, c, w', h2, h3, h4, h5⟩ := appw (own_empty hq h) hb.size (L := cl.drop n) (g := g) (o := n) (mm := T - n) (fun j u hj => below_cell hb _ _ (hc (n + j) u (by rw [List.getElem?_drop] at hj; exact hj))) (by rw [List.length_drop]; omega) (fun u hu => h1 u (List.mem_of_mem_drop hu)) (by omega) (T - n)
  rw [Nat.zero_add] at h2 h3
  exact ⟨p, c, w', h2, h3, hb.trans h4, h5⟩
theorem turn_app2 {W2 V : World} {g T n : Nat} {cl : List Value} (hn : n ≤ T) (hT5 : T ≤ 5) (hcl : cl.length = T) (hc : ∀ j u, cl[j]? = some u → W2.cell? ⟨g, j, none⟩ = some u) (h1 : ∀ u ∈ cl, u.oneCell' = true) (hb : Below W2.heap.size W2 V) {p : Option Addr} {c : Nat} (h : V.ownsRow W2.heap.size 23 1 (.slice p (T - n) c) (T - n) (cl.drop n)) :
    ∃ (p' : Option Addr) (c' : Nat) (w' : World), (∀ ty, (Builtin.append_ #[36, 36] ty #[.slice p (T - n) c, .slice (some ⟨g, 0, none⟩) n T]).run Tryd.prog V = .ok (.slice p' T c') w') ∧ w'.ownsRow W2.heap.size 23 1 (.slice p' T c') T (cl.drop n ++ cl.take n) ∧ Below W2.heap.size W2 w' ∧ ∀ (B : Nat) (cs : Array Value), V.heap[B]? = some (.cells cs 36 (0, 0)) → w'.heap[B]? = some (.cells cs 36 (0, 0)) := by
  obtain ⟨p', c', w', h2, h3, h4, h5⟩ := appw h hb.size (L := cl.take n) (g := g) (o := 0) (mm := n) (fun j u hj => below_cell hb _ _ (by
    rw [Nat.zero_add]
    refine hc j u ?_
    have h9 := (List.getElem?_eq_some_iff.1 hj).1
    rw [List.length_take] at h9
    rw [List.getElem?_take_of_lt (by omega)] at hj
    exact hj)) (by rw [List.length_take]; omega) (fun u hu => h1 u (List.mem_of_mem_take hu)) (by omega) T
  rw [show T - n + n = T by omega] at h2 h3
  exact ⟨p', c', w', h2, h3, hb.trans h4, h5⟩
/-- A way's cells. -/
theorem way_cells {w : World} {bs g K T : Nat} {rows : List (List Nat)} (h : WayAt w bs g K T rows) (hl : rows.length = T) : ∃ cl : List Value, cl.length = T ∧ (∀ j u, cl[j]? = some u → w.cell? ⟨g, j, none⟩ = some u) ∧ ∀ u ∈ cl, u.oneCell' = true := by
  obtain ⟨cur, h1, h2, h3, h4⟩ := h.blk
  refine ⟨cur.toList, by simpa using h2, fun j u hj => cell_box h1 (by simpa using hj), fun u hu => ?_⟩
  obtain ⟨i, hi, rfl⟩ := List.getElem_of_mem hu
  rw [Array.length_toList] at hi
  obtain ⟨-, p, c, g2, -⟩ := h4 i (by omega)
  rw [Array.getElem?_eq_getElem hi] at g2
  rw [Array.getElem_toList, Option.some.inj g2]
  rfl
/-- A range within a round. -/
theorem range_inner {F : Fence} {n : Nat} {P : Program} {g : Operand} {ps : Array Tmp} {assign body : Code} {Q : Exit → Act → World → Prop} {a : Act} {w : World} {l0 : Nat} {r0 : Loop}
    (hro : F.round = some l0) (hr0 : w.heap[l0]? = some (.loop r0)) (h1 : F.depth.isSome = true → 1 ≤ n) {gf : Nat} {lb : Array Value} (hg : a.eval g = .func (.func gf) #[] lb) (hFg : F.fn gf) (eg : ∀ args w, (callFunc gf args).run P w = .ok (.enter gf args) w)
    (hcall : ∀ r : Loop, r.state = .ready → r.pending = none → r.tmps = a.tmps → r.params = ps → r.assign = assign → r.body = body → F.fn r.fn →
      CallsIn F (n - 1) P gf (#[.func (.yield w.heap.size) #[] #[]] ++ lb) (w.alloc (.loop r)) fun e W => (∃ v, e = .returned v) ∧
        ((W.heap[w.heap.size]? = some (.loop r) ∧ Q .normal a (W.putObj w.heap.size (.loop { r with state := .exhausted }))) ∨
         (∃ c, W.heap[w.heap.size]? = some (.loop { r with state := .done, pending := some c }) ∧ c.wpIn F n P Q a (W.putObj w.heap.size (.loop { r with state := .exhausted, pending := some c }))))) :
    (Code.rangeFunc g ps assign body).wpIn F n P Q a w := by
  refine wpIn_rangeFunc ?_
  intro fn hfn
  rw [hro]
  let r : Loop := { state := .ready, pending := none, fn, tmps := a.tmps, params := ps, assign, body, defers := r0.defers }
  let W1 : World := w.alloc (.loop r)
  refine ⟨w.heap.size, [], W1, { target := .fn (.func gf) lb, args := #[.func (.yield w.heap.size) #[] #[]] }, W1, gf,
    #[.func (.yield w.heap.size) #[] #[]] ++ lb, W1, run_enterLoop_inner hr0 fn a.tmps ps assign body, ?_, ?_, ?_, h1, ?_⟩
  · simp only [resolve, hg]
    simp [go_sem]
  · intro f' hf'; simp [Target.leads] at hf'; subst hf'; exact hFg
  · simp [invoke, go_sem, eg]
  · refine (hcall r rfl rfl rfl rfl rfl rfl hfn).mono ?_
    rintro e W ⟨⟨v, rfl⟩, (⟨hl, hq⟩ | ⟨c, hl, hq⟩)⟩
    · exact ⟨none, _, run_endLoop hl (by simp), hq⟩
    · exact ⟨some c, _, run_endLoop hl (by simp), hq⟩
end Go.Proofs.YtdpdpjfnanjmgaaDoor
