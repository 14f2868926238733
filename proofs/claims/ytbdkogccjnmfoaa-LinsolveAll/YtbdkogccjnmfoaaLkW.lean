/- What may be gone through; a range within a round; what a turn of LinsolveAll keeps. -/
import Derived.Test.YtbdkogccjnmfoaaLkU
namespace Go.Proofs.Ytbdkogccjnmfoaa
open Go.RowKit Go.Shelf

attribute [local go_sem] Oper.semAt_some

/-- A function value that hands out these vectors, each in new memory, if some blocks are as they were. -/
structure SeqA (X : Nat → Prop) (Keep : World → Prop) (L : List (List Nat)) (gf : Nat) (lb : Array Value) : Prop where
  en : ∀ args w, (callFunc gf args).run Try.prog w = .ok (.enter gf args) w
  same : ∀ W W' : World, Keep W → (∀ b, X b → W'.heap[b]? = W.heap[b]?) → Keep W'
  go : ∀ (m lp : Nat) (J : List Vc → Nat → Nat → World → Prop) (Jx : World → Prop) (W0 : World), Keep W0 → (∀ b, X b → b < W0.heap.size) →
    (∀ vs W1, Below W0.heap.size W0 W1 → vs.map Vc.l = L → (∀ x ∈ vs, W0.heap.size ≤ x.b ∧ VcAt W1 x) → (vs.map Vc.b).Nodup → J vs W1.heap.size 0 W1) →
    (∀ mm vs V k W x, vs[k]? = some x → J vs V k W → V ≤ W.heap.size → W0.heap.size ≤ V → YieldAt Fence.wide mm Try.prog lp #[vcV x] W fun e W' => (∀ b, W0.heap.size ≤ b → b < V → (∀ x ∈ vs, x.b ≠ b) → W'.heap[b]? = W.heap[b]?) ∧ V ≤ W'.heap.size ∧ ((e = .returned (.bool true) ∧ J vs V (k + 1) W') ∨ (e = .returned (.bool false) ∧ Jx W'))) →
    CallsIn Fence.wide (m + 4) Try.prog gf (#[.func (.yield lp) #[] #[]] ++ lb) W0 fun e W' => (∃ v, e = .returned v) ∧ ((∃ vs V, vs.map Vc.l = L ∧ J vs V vs.length W') ∨ Jx W')
theorem seq_none : SeqA (fun _ => False) (fun _ => True) [] 35 #[] where
  en := enters_of Try.func35 (by kernel_rfl) rfl
  same := fun _ _ _ _ => trivial
  go := fun m lp J Jx W0 _ _ h0 _ => (none_in (m + 4) lp W0).mono fun e W' ⟨h1, h2⟩ => ⟨h1, .inl ⟨[], W0.heap.size, rfl, by rw [h2]; exact h0 [] W0 (Below.refl _ _) rfl (by simp) (by simp)⟩⟩
theorem seq_all {a b : List Int} (h0 : chkE a b = 0) {lo hi B0 : Nat} {L : List (List Nat)} (hL : IsMin (pbOf a b) L) : SeqA (fun b => lo ≤ b ∧ b < hi) (fun W => SdAt (fun q => lo ≤ q ∧ q < hi) W B0 (pbOf a b)) L 36 #[.pointer (some ⟨B0, 0, none⟩)] where
  en := enters_of Try.func36 (by kernel_rfl) rfl
  same := fun _ _ h hs => h.same hs
  go := fun m lp J Jx W0 hk hX hi hY => (all_in m lp B0 (pbOf a b) 6 6 (pb_ok h0) (by omega) (by omega) (chk_zero h0).1 (chk_zero h0).2.1 J Jx W0 (hk.mono hX) (fun vs W1 h1 h2 h3 h4 => hi vs W1 h1 (h2.unique hL) h3 h4) hY).mono fun e W' ⟨h1, h2⟩ => ⟨h1, h2.imp (fun ⟨vs, V, q1, q2⟩ => ⟨vs, V, q1.unique hL, q2⟩) id⟩
/-- A range within a round. -/
theorem range_inner {F : Fence} {n : Nat} {P : Program} {g : Operand} {ps : Array Tmp} {assign body : Code} {Q : Exit → Act → World → Prop} {a : Act} {w : World} {l0 : Nat} {r0 : Loop}
    (hro : F.round = some l0) (hr0 : w.heap[l0]? = some (.loop r0)) (h1 : F.depth.isSome = true → 1 ≤ n) {gf : Nat} {lb : Array Value} (hg : a.eval g = .func (.func gf) #[] lb) (hFg : F.fn gf) (eg : ∀ args w, (callFunc gf args).run P w = .ok (.enter gf args) w)
    (hcall : ∀ r : Loop, r.state = .ready → r.pending = none → r.tmps = a.tmps → r.params = ps → r.assign = assign → r.body = body → F.fn r.fn →
      CallsIn F (n - 1) P gf (#[.func (.yield w.heap.size) #[] #[]] ++ lb) (w.alloc (.loop r)) fun e W => (∃ v, e = .returned v) ∧
        ((W.heap[w.heap.size]? = some (.loop r) ∧ Q .normal a (W.putObj w.heap.size (.loop { r with state := .exhausted }))) ∨
         (∃ c, W.heap[w.heap.size]? = some (.loop { r with state := .done, pending := some c }) ∧ c.wpIn F n P Q a (W.putObj w.heap.size (.loop { r with state := .exhausted, pending := some c }))))) :
    (Code.rangeFunc g ps assign body).wpIn F n P Q a w := by
  refine wpIn_rangeFunc ?_
  intro fn hfn
  rw [hro]
  let r : Loop := { state := .ready, pending := none, fn, tmps := a.tmps, params := ps, assign, body, defers := r0.defers }
  let W1 : World := w.alloc (.loop r)
  refine ⟨w.heap.size, [], W1, { target := .fn (.func gf) lb, args := #[.func (.yield w.heap.size) #[] #[]] }, W1, gf,
    #[.func (.yield w.heap.size) #[] #[]] ++ lb, W1, run_enterLoop_inner hr0 fn a.tmps ps assign body, ?_, ?_, ?_, h1, ?_⟩
  · simp only [resolve, hg]
    simp [go_sem]
  · intro f' hf'; simp [Target.leads] at hf'; subst hf'; exact hFg
  · simp [invoke, go_sem, eg]
  · refine (hcall r rfl rfl rfl rfl rfl rfl hfn).mono ?_
    rintro e W ⟨⟨v, rfl⟩, (⟨hl, hq⟩ | ⟨c, hl, hq⟩)⟩
    · exact ⟨none, _, run_endLoop hl (by simp), hq⟩
    · exact ⟨some c, _, run_endLoop hl (by simp), hq⟩
theorem lists_start (w : World) (most : Int) (A : World) (hA : A = (w.alloc (.cells #[.int .i64 most] 3)).alloc (.cells #[.bool false] 4)) :
    Below w.heap.size w A ∧ A.heap[w.heap.size]? = some (.cells #[.int .i64 most] 3 (0, 0)) ∧ A.heap[w.heap.size + 1]? = some (.cells #[.bool false] 4 (0, 0)) ∧ A.heap.size = w.heap.size + 2 := by
  have b1 := alloc_below0 w (.cells #[.int .i64 most] 3)
  have n1 := World.alloc_heap_new w (.cells #[.int .i64 most] 3)
  have s1 := World.size_alloc w (.cells #[.int .i64 most] 3)
  generalize w.alloc (.cells #[.int .i64 most] 3) = A1 at b1 n1 s1 hA
  have b2 := alloc_below0 A1 (.cells #[.bool false] 4)
  have n2 := World.alloc_heap_new A1 (.cells #[.bool false] 4)
  have s2 := World.size_alloc A1 (.cells #[.bool false] 4)
  rw [← hA] at b2 n2 s2
  refine ⟨b1.trans (b2.mono (by omega)), (b2.block _ (by omega)).trans n1, by rw [← s1]; exact n2, by omega⟩
/-- The slots that a turn needs. -/
structure Slots (Y S10 S12 T : Nat) (tm : Array Value) : Prop where
  size : tm.size = 108
  s5 : tm.getD 5 undef = .pointer (some ⟨Y, 0, none⟩)
  s6 : tm.getD 6 undef = .pointer (some ⟨Y + 1, 0, none⟩)
  s10 : tm.getD 10 undef = .pointer (some ⟨S10, 0, none⟩)
  s12 : tm.getD 12 undef = .pointer (some ⟨S12, 0, none⟩)
  s13 : tm.getD 13 undef = .pointer (some ⟨T, 0, none⟩)
theorem arr_lit (tm : Array Value) (h : tm.size = 108) : tm = ((List.range 108).map (fun i => tm.getD i undef)).toArray := by
  refine Array.ext (by simp [h]) (fun i h1 h2 => ?_)
  simp [h1]
set_option maxRecDepth 100000 in
theorem slots_lit {Y S10 S12 T : Nat} {tm : Array Value} (h : Slots Y S10 S12 T tm) : ∃ u : Nat → Value, tm = #[u 0, u 1, u 2, u 3, u 4, .pointer (some ⟨Y, 0, none⟩), .pointer (some ⟨Y + 1, 0, none⟩), u 7, u 8, u 9, .pointer (some ⟨S10, 0, none⟩), u 11, .pointer (some ⟨S12, 0, none⟩), .pointer (some ⟨T, 0, none⟩), u 14, u 15, u 16, u 17, u 18, u 19, u 20, u 21, u 22, u 23, u 24, u 25, u 26, u 27, u 28, u 29, u 30, u 31, u 32, u 33, u 34, u 35, u 36, u 37, u 38, u 39, u 40, u 41, u 42, u 43, u 44, u 45, u 46, u 47, u 48, u 49, u 50, u 51, u 52, u 53, u 54, u 55, u 56, u 57, u 58, u 59, u 60, u 61, u 62, u 63, u 64, u 65, u 66, u 67, u 68, u 69, u 70, u 71, u 72, u 73, u 74, u 75, u 76, u 77, u 78, u 79, u 80, u 81, u 82, u 83, u 84, u 85, u 86, u 87, u 88, u 89, u 90, u 91, u 92, u 93, u 94, u 95, u 96, u 97, u 98, u 99, u 100, u 101, u 102, u 103, u 104, u 105, u 106, u 107] := by
  refine ⟨fun i => tm.getD i undef, ?_⟩
  have e1 : (List.range 108).map (fun i => tm.getD i undef) = [tm.getD 0 undef, tm.getD 1 undef, tm.getD 2 undef, tm.getD 3 undef, tm.getD 4 undef, tm.getD 5 undef, tm.getD 6 undef, tm.getD 7 undef, tm.getD 8 undef, tm.getD 9 undef, tm.getD 10 undef, tm.getD 11 undef, tm.getD 12 undef, tm.getD 13 undef, tm.getD 14 undef, tm.getD 15 undef, tm.getD 16 undef, tm.getD 17 undef, tm.getD 18 undef, tm.getD 19 undef, tm.getD 20 undef, tm.getD 21 undef, tm.getD 22 undef, tm.getD 23 undef, tm.getD 24 undef, tm.getD 25 undef, tm.getD 26 undef, tm.getD 27 undef, tm.getD 28 undef, tm.getD 29 undef, tm.getD 30 undef, tm.getD 31 undef, tm.getD 32 undef, tm.getD 33 undef, tm.getD 34 undef, tm.getD 35 undef, tm.getD 36 undef, tm.getD 37 undef, tm.getD 38 undef, tm.getD 39 undef, tm.getD 40 undef, tm.getD 41 undef, tm.getD 42 undef, tm.getD 43 undef, tm.getD 44 undef, tm.getD 45 undef, tm.getD 46 undef, tm.getD 47 undef, tm.getD 48 undef, tm.getD 49 undef, tm.getD 50 undef, tm.getD 51 undef, tm.getD 52 undef, tm.getD 53 undef, tm.getD 54 undef, tm.getD 55 undef, tm.getD 56 undef, tm.getD 57 undef, tm.getD 58 undef, tm.getD 59 undef, tm.getD 60 undef, tm.getD 61 undef, tm.getD 62 undef, tm.getD 63 undef, tm.getD 64 undef, tm.getD 65 undef, tm.getD 66 undef, tm.getD 67 undef, tm.getD 68 undef, tm.getD 69 undef, tm.getD 70 undef, tm.getD 71 undef, tm.getD 72 undef, tm.getD 73 undef, tm.getD 74 undef, tm.getD 75 undef, tm.getD 76 undef, tm.getD 77 undef, tm.getD 78 undef, tm.getD 79 undef, tm.getD 80 undef, tm.getD 81 undef, tm.getD 82 undef, tm.getD 83 undef, tm.getD 84 undef, tm.getD 85 undef, tm.getD 86 undef, tm.getD 87 undef, tm.getD 88 undef, tm.getD 89 undef, tm.getD 90 undef, tm.getD 91 undef, tm.getD 92 undef, tm.getD 93 undef, tm.getD 94 undef, tm.getD 95 undef, tm.getD 96 undef, tm.getD 97 undef, tm.getD 98 undef, tm.getD 99 undef, tm.getD 100 undef, tm.getD 101 undef, tm.getD 102 undef, tm.getD 103 undef, tm.getD 104 undef, tm.getD 105 undef, tm.getD 106 undef, tm.getD 107 undef] := by rfl
  have e2 := arr_lit tm h.size
  rw [e1, h.s5, h.s6, h.s10, h.s12, h.s13] at e2
  exact e2
/-- The blocks for deferred calls, as the turns go. -/
def DSt (lo t : Nat) (ds : List Deferred) (T : Nat) (W : World) : Prop := (t = 0 ∧ ds = []) ∨ (t = 1 ∧ ∃ D1, lo ≤ D1 ∧ D1 < T ∧ ds = [{ target := .collected D1, args := #[] }] ∧ W.heap[D1]? = some (.deferred (some []))) ∨
  (t = 2 ∧ ∃ D1 D2, lo ≤ D1 ∧ D1 < D2 ∧ D2 < T ∧ ds = [{ target := .collected D2, args := #[] }, { target := .collected D1, args := #[] }] ∧ W.heap[D1]? = some (.deferred (some [])) ∧ W.heap[D2]? = some (.deferred (some [])))
theorem DSt.map {lo t : Nat} {ds : List Deferred} {T : Nat} {W W' : World} (h : DSt lo t ds T W) (hk : ∀ (b : Nat) (o : Obj), b < T → o = .deferred (some []) → W.heap[b]? = some o → W'.heap[b]? = some o) : DSt lo t ds T W' := by
  rcases h with h | ⟨h1, D1, h0, h2, h3, h4⟩ | ⟨h1, D1, D2, h0, h2, h3, h4, h5, h6⟩
  · exact .inl h
  · exact .inr (.inl ⟨h1, D1, h0, h2, h3, hk _ _ h2 rfl h4⟩)
  · exact .inr (.inr ⟨h1, D1, D2, h0, h2, h3, h4, hk _ _ (by omega) rfl h5, hk _ _ h3 rfl h6⟩)
theorem DSt.below {lo t : Nat} {ds : List Deferred} {T : Nat} {W W' : World} (h : DSt lo t ds T W) (hb : Below W.heap.size W W') : DSt lo t ds T W' := h.map (fun _ _ _ _ hh => below_blk hb hh)
/-- A turn more. -/
theorem DSt.next {lo t : Nat} {ds : List Deferred} {T D T' : Nat} {W : World} (h : DSt lo t ds T W) (ht : t < 2) (hlo : lo ≤ D) (hT : T < D) (hD : D < T') (hw : W.heap[D]? = some (.deferred (some []))) : DSt lo (t + 1) ({ target := .collected D, args := #[] } :: ds) T' W := by
  rcases h with ⟨rfl, rfl⟩ | ⟨rfl, D1, h0, h2, rfl, h4⟩ | ⟨rfl, _⟩
  · exact .inr (.inl ⟨rfl, D, hlo, hD, rfl, hw⟩)
  · exact .inr (.inr ⟨rfl, D1, D, h0, by omega, hD, rfl, h4, hw⟩)
  · omega
/-- What a turn keeps, round by round: the box of n and all that stands ahead of the range's record. -/
structure TK (W13 : World) (T Nn D t : Nat) (ds : List Deferred) (kz : Int) (W : World) : Prop where
  low : Below W13.heap.size W13 W
  tb : W.heap[T]? = some (.cells #[.int .i64 (t : Int)] 3 (0, 0))
  nb : W.heap[Nn]? = some (.cells #[.int .i64 kz] 3 (0, 0))
  db : W.heap[D]? = some (.deferred (some []))
  ds : DSt W13.heap.size t ds T W
  sz : D + 1 < W.heap.size
  o1 : W13.heap.size ≤ T
  o2 : T < Nn
  o3 : Nn < D
theorem TK.fr {W13 : World} {T Nn D t : Nat} {ds : List Deferred} {kz : Int} {W W' : World} {A : Nat → Prop} (h : TK W13 T Nn D t ds kz W) (hf : Fr A W W') (hA : ∀ b, A b → D < b) : TK W13 T Nn D t ds kz W' := by
  have h1 := h.o1; have h2 := h.o2; have h3 := h.o3; have h4 := h.sz; have h5 := hf.low.size
  have kk : ∀ (bb : Nat) (o : Obj), bb ≤ D → W.heap[bb]? = some o → W'.heap[bb]? = some o := fun bb o hle hb => (hf.same _ (Array.getElem?_eq_some_iff.1 hb).1 (fun hx => by have := hA _ hx; omega)).trans hb
  exact ⟨h.low.trans (hf.below (n := W13.heap.size) (fun bb hb => by have := hA _ hb; omega) (by omega)), kk _ _ (by omega) h.tb, kk _ _ (by omega) h.nb, kk _ _ (by omega) h.db, h.ds.map (fun b o hb _ ho => kk b o (by omega) ho), by omega, h1, h2, h3⟩
theorem TK.set {W13 : World} {T Nn D t : Nat} {ds : List Deferred} {kz : Int} {W : World} (h : TK W13 T Nn D t ds kz W) (y : Int) : TK W13 T Nn D t ds y (W.setCell ⟨Nn, 0, none⟩ (.int .i64 y)) := by
  have h1 := h.o1; have h2 := h.o2; have h3 := h.o3; have h4 := h.sz
  have hf := fr_set W Nn 0 (.int .i64 y)
  have h5 := hf.low.size
  have kk : ∀ (bb : Nat) (o : Obj), bb ≠ Nn → W.heap[bb]? = some o → (W.setCell ⟨Nn, 0, none⟩ (.int .i64 y)).heap[bb]? = some o := fun bb o hle hb => (set_far hle _).trans hb
  exact ⟨h.low.trans (hf.below (n := W13.heap.size) (fun bb hb => by omega) (by omega)), kk _ _ (by omega) h.tb, set_box h.nb, kk _ _ (by omega) h.db, h.ds.map (fun b o hb _ ho => kk b o (by omega) ho), by omega, h1, h2, h3⟩
/-- A round's end: n has grown, the record is laid back. -/
theorem TK.ends {W13 : World} {T Nn D t : Nat} {ds : List Deferred} {kz : Int} {W5 : World} {o1 : Obj} (h : TK W13 T Nn D t ds kz W5) (hl : W5.heap[D + 1]? = some o1) (y : Int) (W6 : World) (h6 : W6 = W5.setCell ⟨Nn, 0, none⟩ (.int .i64 y)) (o : Obj) :
    W6.heap[D + 1]? = some o1 ∧ (∀ b, D + 2 ≤ b → (W6.putObj (D + 1) o).heap[b]? = W5.heap[b]?) ∧ TK W13 T Nn D t ds y (W6.putObj (D + 1) o) ∧ (W6.putObj (D + 1) o).heap[D + 1]? = some o ∧ (W6.putObj (D + 1) o).heap.size = W5.heap.size := by
  have hk := h.set y
  rw [← h6] at hk
  have h3 := h.o3
  have far : ∀ b, b ≠ Nn → W6.heap[b]? = W5.heap[b]? := fun b hb => by rw [h6]; exact set_far hb _
  refine ⟨(far _ (by omega)).trans hl, fun b hb1 => (World.putObj_heap_other (by omega)).trans (far _ (by omega)), hk.fr (fr_one (D + 1) o) (fun b e => by omega), World.putObj_heap_same hk.sz, ?_⟩
  rw [show (W6.putObj (D + 1) o).heap.size = W6.heap.size by simp [World.putObj], h6]
  simp [World.setCell]
/-- A turn's end. -/
theorem TK.turn {W13 : World} {T Nn D t : Nat} {ds : List Deferred} {kz : Int} {W : World} (h : TK W13 T Nn D t ds kz W) (ht : t < 2) (W' : World) (hW : W' = W.alloc (.cells #[.int .i64 ((t : Int) + 1)] 3)) :
    Below W13.heap.size W13 W' ∧ W'.heap[W.heap.size]? = some (.cells #[.int .i64 ((t + 1 : Nat) : Int)] 3 (0, 0)) ∧ DSt W13.heap.size (t + 1) ({ target := .collected D, args := #[] } :: ds) W.heap.size W' := by
  have hb := alloc_below0 W (.cells #[.int .i64 ((t : Int) + 1)] 3)
  have hn := World.alloc_heap_new W (.cells #[.int .i64 ((t : Int) + 1)] 3)
  rw [← hW] at hb hn
  have h1 := h.o1; have h2 := h.o2; have h3 := h.o3; have h4 := h.sz
  refine ⟨h.low.trans (hb.mono (by omega)), ?_, (h.ds.below hb).next ht (by omega) (by omega) (by omega) (below_blk hb h.db)⟩
  rw [show ((t + 1 : Nat) : Int) = (t : Int) + 1 by omega]
  exact hn
theorem load_bool {W : World} {B : Nat} {v : Bool} {t : TypeId} (h : W.heap[B]? = some (.cells #[.bool v] t (0, 0))) : (loadVar 4 ⟨B, 0, none⟩).run Try.prog W = .ok (.bool v) W := by
  have c0 : W.cell? ⟨B, 0, none⟩ = some (.bool v) := cell_box h rfl
  simp [go_sem, loadVar, c0]
theorem results_c1 {fn : Func} {tmps : Array Value} {W : World} {a : Addr} {x : Value} (h : fn.results = #[.cell 6 4]) (ha : tmps.getD 6 undef = .pointer (some a)) (la : (loadVar 4 a).run Try.prog W = .ok x W) : (results fn tmps).run Try.prog W = .ok x W := by
  have ha' : tmps[6]?.getD undef = .pointer (some a) := by simpa using ha
  simp [results, h, ha', asAddr, la]
/-- What may be gone through, the vectors that are wanted, and what they need. -/
structure Ready (w : World) (Y S10 S12 : Nat) (most : Int) (X : Nat → Prop) (Keep : World → Prop) (L : List (List Nat)) (gf : Nat) (lb : Array Value) (pm : Option Addr) (cm : Nat) (ms : List Vc) (W : World) : Prop where
  y0 : W.heap[Y]? = some (.cells #[.int .i64 most] 3 (0, 0))
  y1 : W.heap[Y + 1]? = some (.cells #[.bool false] 4 (0, 0))
  s10 : W.heap[S10]? = some (.cells #[.func (.func gf) #[] lb] 37 (0, 0))
  s12 : W.heap[S12]? = some (.cells #[.slice pm L.length cm] 23 (0, 0))
  mr : XRow W 0 (.slice pm L.length cm) ms
  ml : ms.map Vc.l = L
  seq : SeqA X Keep L gf lb
  keep : Keep W
  xs : ∀ b, X b → b < W.heap.size
  low : Below Y w W
  wy : w.heap.size = Y
theorem Ready.below {w : World} {Y S10 S12 : Nat} {most : Int} {X : Nat → Prop} {Keep : World → Prop} {L : List (List Nat)} {gf : Nat} {lb : Array Value} {pm : Option Addr} {cm : Nat} {ms : List Vc} {W W' : World} (h : Ready w Y S10 S12 most X Keep L gf lb pm cm ms W) (hb : Below W.heap.size W W') : Ready w Y S10 S12 most X Keep L gf lb pm cm ms W' :=
  ⟨below_blk hb h.y0, below_blk hb h.y1, below_blk hb h.s10, below_blk hb h.s12, h.mr.below hb, h.ml, h.seq, h.seq.same _ _ h.keep (fun b hx => hb.block b (h.xs b hx)), fun b hx => Nat.lt_of_lt_of_le (h.xs b hx) hb.size, h.low.trans (hb.mono (by have h1 := h.low.size; have h2 := h.wy; omega)), h.wy⟩
/-- The vectors that are still to come. -/
structure VK (L : List (List Nat)) (vs : List Vc) (V D k : Nat) (W : World) : Prop where
  ml : vs.map Vc.l = L
  nd : (vs.map Vc.b).Nodup
  far : ∀ x ∈ vs, D + 2 ≤ x.b ∧ x.b < V
  vec : ∀ j (h : j < vs.length), k ≤ j → VcAt W vs[j]
theorem VK.next {L : List (List Nat)} {vs : List Vc} {V D k : Nat} {W W' : World} (h : VK L vs V D k W) (hs : ∀ j (hj : j < vs.length), k + 1 ≤ j → W'.heap[vs[j].b]? = W.heap[vs[j].b]?) : VK L vs V D (k + 1) W' :=
  ⟨h.ml, h.nd, h.far, fun j hj hk => (h.vec j hj (by omega)).same (hs j hj hk)⟩
theorem VK.ne {L : List (List Nat)} {vs : List Vc} {V D k : Nat} {W : World} (h : VK L vs V D k W) (j : Nat) (hk : k < vs.length) (hj : j < vs.length) (hkj : k < j) : vs[j].b ≠ vs[k].b := fun e => by
  have h1 := List.pairwise_iff_getElem.1 h.nd k j (by simpa using hk) (by simpa using hj) hkj
  rw [List.getElem_map, List.getElem_map] at h1
  exact h1 e.symm
end Go.Proofs.Ytbdkogccjnmfoaa
