/- push: the attempts that count one unknown more. -/
import Derived.Test.YtbdkogccjnmfoaaLiE
namespace Go.Proofs.Ytbdkogccjnmfoaa
open Go.RowKit Go.Shelf

/-- An attempt's cells. -/
abbrev attC (t : Tr) : List Value := [.int .i64 (t.x 0), .int .i64 (t.x 1), .int .i64 (t.x 2), .int .i64 (t.x 3), .int .i64 (t.x 4), .int .i64 (t.y 0), .int .i64 (t.y 1), .int .i64 (t.y 2), .int .i64 (t.y 3), .int .i64 (t.y 4), .int .i64 (t.f), .int .i64 (t.g), .int .u64 (t.m), .int .u64 (t.k), .int .i64 (t.d)]
abbrev attV (t : Tr) : Value := .agg #[.int .i64 (t.x 0), .int .i64 (t.x 1), .int .i64 (t.x 2), .int .i64 (t.x 3), .int .i64 (t.x 4), .int .i64 (t.y 0), .int .i64 (t.y 1), .int .i64 (t.y 2), .int .i64 (t.y 3), .int .i64 (t.y 4), .int .i64 (t.f), .int .i64 (t.g), .int .u64 (t.m), .int .u64 (t.k), .int .i64 (t.d)]
/-- The cells of a stack of attempts. -/
def stC (st : List Tr) : List Value := st.flatMap attC
theorem stC_len (st : List Tr) : (stC st).length = st.length * 15 := by
  unfold stC
  induction st with
  | nil => rfl
  | cons t st ih => rw [List.flatMap_cons, List.length_append, ih, List.length_cons]; simp; omega
theorem stC_app (st : List Tr) (t : Tr) : stC (st ++ [t]) = stC st ++ attC t := by unfold stC; simp
theorem attC_one (t : Tr) : ∀ u ∈ attC t, u.oneCell' = true := fun u hu => by
  simp only [attC, List.mem_cons, List.not_mem_nil, or_false] at hu
  rcases hu with rfl | rfl | rfl | rfl | rfl | rfl | rfl | rfl | rfl | rfl | rfl | rfl | rfl | rfl | rfl <;> rfl
def Stk (base : Nat) (w : World) (v : Value) (st : List Tr) : Prop := w.ownsRow base 68 15 v st.length (stC st)
theorem info68 : (Try.prog.info? 68).map (fun i => (i.zero, i.size, i.bytes)) = some (some (.agg #[.int .i64 0, .int .i64 0, .int .i64 0, .int .i64 0, .int .i64 0, .int .i64 0, .int .i64 0, .int .i64 0, .int .i64 0, .int .i64 0, .int .i64 0, .int .i64 0, .int .u64 0, .int .u64 0, .int .i64 0]), 15, 120) := by kernel_rfl
/-- An attempt more. -/
theorem run_appT (ty base : Nat) (v : Value) (st : List Tr) (t : Tr) (w : World) (hown : Stk base w v st) (b : Nat) (hb : w.heap[b]? = some (.cells (attC t).toArray 68 (0, 0))) (hn : st.length + 1 ≤ 1000000000000) (hbase : base ≤ w.heap.size) :
    ∃ v' w', (Builtin.append_ #[69, 69] ty #[v, .slice (some ⟨b, 0, none⟩) 1 1]).run Try.prog w = .ok v' w' ∧ Stk base w' v' (st ++ [t]) ∧ Fr (fun q => v.ownBlock = some q) w w' ∧ (v'.ownBlock = v.ownBlock ∨ v'.ownBlock = some w.heap.size) := by
  obtain ⟨i0, hi0, hz0, hz1, hz2⟩ := info_parts info68
  obtain ⟨v', w', hr, h2, h3, _, h5⟩ := run_append_own_at (P := Try.prog) w base 69 ty 68 i0 _ 15 120 Try.underlying69 hi0 hz0 hz1 hz2 rfl (by decide) v st.length (stC st) hown ⟨b, 0, none⟩ 1 1 (attC t) rfl (fun j x hj => by
    rw [Addr.add_lit, Nat.zero_add]
    exact cell_box hb (by rw [List.getElem?_toArray]; exact hj)) (attC_one t) (by unfold maxLen; omega) (by omega) hbase
  refine ⟨v', w', hr, ?_, fr_grown h3, h5⟩
  unfold Stk
  rw [stC_app, List.length_append]
  exact h2
theorem cells_box15 {W : World} {b : Nat} {t : Tr} (h : W.heap[b]? = some (.cells (attC t).toArray 68 (0, 0))) {i : Nat} {v : Value} (hv : (attC t)[i]? = some v) : W.cell? ⟨b, i, none⟩ = some v := cell_box h (by rw [List.getElem?_toArray]; exact hv)
theorem Stk.below {base : Nat} {w w' : World} {v : Value} {st : List Tr} (h : Stk base w v st) (hb : ∀ q, v.ownBlock = some q → w'.heap[q]? = w.heap[q]?) : Stk base w' v st :=
  ⟨h.1, by
    rcases h.2 with h0 | ⟨g, cap, cur, h1, h2, h3, h4⟩
    · exact .inl h0
    · exact .inr ⟨g, cap, cur, h1, h2, (hb g (by rw [h1]; rfl)).trans h3, h4⟩⟩
theorem Stk.lt {base : Nat} {w : World} {v : Value} {st : List Tr} (h : Stk base w v st) {q : Nat} (hq : v.ownBlock = some q) : q < w.heap.size ∧ base ≤ q := by
  rcases h.2 with ⟨h0, _⟩ | ⟨g, cap, cur, h1, h2, h3, h4⟩
  · rw [h0] at hq; cases hq
  · rw [h1] at hq
    have : g = q := Option.some.inj hq
    subst this
    exact ⟨(Array.getElem?_eq_some_iff.1 h3).1, h2⟩
theorem setX (t : Tr) (i : Nat) (hi : i < 5) : (attC t).toArray.setIfInBounds i (.int .i64 ((t.x i : Int) + 1)) = (attC { t with x := up t.x i }).toArray := by
  match i, hi with
  | 0, _ => rfl
  | 1, _ => rfl
  | 2, _ => rfl
  | 3, _ => rfl
  | 4, _ => rfl
theorem setY (t : Tr) (i : Nat) (hi : i < 5) : (attC t).toArray.setIfInBounds (5 + i) (.int .i64 ((t.y i : Int) + 1)) = (attC { t with y := up t.y i }).toArray := by
  match i, hi with
  | 0, _ => rfl
  | 1, _ => rfl
  | 2, _ => rfl
  | 3, _ => rfl
  | 4, _ => rfl
theorem getX (t : Tr) (i : Nat) (hi : i < 5) : (attC t)[i]? = some (.int .i64 (t.x i)) := by
  match i, hi with
  | 0, _ => rfl
  | 1, _ => rfl
  | 2, _ => rfl
  | 3, _ => rfl
  | 4, _ => rfl
theorem getY (t : Tr) (i : Nat) (hi : i < 5) : (attC t)[5 + i]? = some (.int .i64 (t.y i)) := by
  match i, hi with
  | 0, _ => rfl
  | 1, _ => rfl
  | 2, _ => rfl
  | 3, _ => rfl
  | 4, _ => rfl

set_option maxRecDepth 100000 in
set_option maxHeartbeats 8000000 in
theorem pushX_any (p : Pb) (x y : Nat → Nat) (f g m k : Nat) (d : Int) (base : Nat) (v : Value) (st : List Tr) (pa pb : Option Addr) (ca cb : Nat) (A B : List Int) (w : World) (hA : IntsIn (fun b => b < base) w pa A) (hl : A.length = p.n) (ha : ∀ i (h : i < A.length), A[i] = (p.a i : Int))
    (ha6 : ∀ i, i < p.n → 1 ≤ p.a i ∧ p.a i ≤ 6) (h5 : p.n ≤ 5) (hm : m < 2 ^ 37) (hx : ∀ i, x i ≤ 100) (hd : d ≤ 0) (hdl : -6 < d) (hn : st.length + 5 ≤ 1000000000000) (hS : Stk base w v st) (hbase : base ≤ w.heap.size) :
    Calls Try.prog 52 #[attV ⟨x, y, f, g, m, k, d⟩, v, .agg #[.slice pa A.length ca, .slice pb B.length cb]] w fun e w' => ∃ v', e = .returned v' ∧ Stk base w' v' (st ++ kids p ⟨x, y, f, g, m, k, d⟩) ∧ Fr (fun q => v.ownBlock = some q) w w' ∧ (v'.ownBlock = v.ownBlock ∨ ∃ q, v'.ownBlock = some q ∧ w.heap.size ≤ q) := by
  have HA := hid hA; have HS := hid hS
  have h5' : A.length ≤ 5 := by omega
  obtain ⟨W0, hW0⟩ : ∃ W, W = (w.alloc (Obj.cells #[.int .i64 (x 0), .int .i64 (x 1), .int .i64 (x 2), .int .i64 (x 3), .int .i64 (x 4), .int .i64 (y 0), .int .i64 (y 1), .int .i64 (y 2), .int .i64 (y 3), .int .i64 (y 4), .int .i64 (f), .int .i64 (g), .int .u64 (m), .int .u64 (k), .int .i64 (d)] 68)).alloc (.cells #[.slice pa A.length ca, .slice pb B.length cb] 48) := ⟨_, rfl⟩
  have b1 := alloc_below0 w (Obj.cells #[.int .i64 (x 0), .int .i64 (x 1), .int .i64 (x 2), .int .i64 (x 3), .int .i64 (x 4), .int .i64 (y 0), .int .i64 (y 1), .int .i64 (y 2), .int .i64 (y 3), .int .i64 (y 4), .int .i64 (f), .int .i64 (g), .int .u64 (m), .int .u64 (k), .int .i64 (d)] 68)
  have b2 := alloc_below0 (w.alloc (Obj.cells #[.int .i64 (x 0), .int .i64 (x 1), .int .i64 (x 2), .int .i64 (x 3), .int .i64 (x 4), .int .i64 (y 0), .int .i64 (y 1), .int .i64 (y 2), .int .i64 (y 3), .int .i64 (y 4), .int .i64 (f), .int .i64 (g), .int .u64 (m), .int .u64 (k), .int .i64 (d)] 68)) (.cells #[.slice pa A.length ca, .slice pb B.length cb] 48)
  rw [World.size_alloc] at b2
  have bW0 : Below w.heap.size w W0 := by rw [hW0]; exact b1.trans (b2.mono (by omega))
  have sW0 : W0.heap.size = w.heap.size + 2 := by rw [hW0, World.size_alloc, World.size_alloc]
  have g1 : W0.heap[w.heap.size]? = some (.cells (attC ⟨x, y, f, g, m, k, d⟩).toArray 68 (0, 0)) := by rw [hW0]; exact (b2.block _ (by omega)).trans (World.alloc_heap_new w _)
  have g2 : W0.heap[w.heap.size + 1]? = some (.cells #[.slice pa A.length ca, .slice pb B.length cb] 48 (0, 0)) := by
    have := World.alloc_heap_new (w.alloc (Obj.cells #[.int .i64 (x 0), .int .i64 (x 1), .int .i64 (x 2), .int .i64 (x 3), .int .i64 (x 4), .int .i64 (y 0), .int .i64 (y 1), .int .i64 (y 2), .int .i64 (y 3), .int .i64 (y 4), .int .i64 (f), .int .i64 (g), .int .u64 (m), .int .u64 (k), .int .i64 (d)] 68)) (.cells #[.slice pa A.length ca, .slice pb B.length cb] 48)
    rw [World.size_alloc] at this
    rw [hW0]; exact this
  have hkid : ∀ j, j ≤ p.n - f → (kids p ⟨x, y, f, g, m, k, d⟩).take j = (List.range j).map (fun i => kidX p ⟨x, y, f, g, m, k, d⟩ (f + i)) := fun j hj => by
    unfold kids
    rw [if_neg (by show ¬ 0 < d; omega)]
    rw [← List.map_take, List.take_range, Nat.min_eq_left hj]
  have hkl : (kids p ⟨x, y, f, g, m, k, d⟩).length = p.n - f := by
    unfold kids
    rw [if_neg (by show ¬ 0 < d; omega)]
    simp
  have HI : Hid (∃ n : Nat, n ≤ p.n - f ∧ (f : Int) = (f : Int) + n ∧ Stk base W0 v (st ++ (kids p ⟨x, y, f, g, m, k, d⟩).take n) ∧ W0.heap[w.heap.size]? = some (.cells (attC ⟨x, y, f, g, m, k, d⟩).toArray 68 (0, 0)) ∧ W0.heap[w.heap.size + 1]? = some (.cells #[.slice pa A.length ca, .slice pb B.length cb] 48 (0, 0)) ∧ Fr (fun q => v.ownBlock = some q) w W0 ∧ w.heap.size + 2 ≤ W0.heap.size) :=
    hid ⟨0, Nat.zero_le _, by omega, by rw [List.take_zero, List.append_nil]; exact hS.below (fun q hq => bW0.block q (hS.lt hq).1), g1, g2, Fr.of_below bW0, by omega⟩
  have HK := hid hkid; have HKL := hid hkl; have HL := hid hl; have HV := hid ha
  have HW0 := hid hW0
  clear hA hS bW0 sW0 g1 g2 b1 b2 hkid hkl hl ha hW0
  go_enter Try.func52, Try.ntmps52
  go_wp2_with fail
  rw [← HW0.out]
  go_loopw [1, 9] (fun vi iv wr => ∃ n : Nat, n ≤ p.n - f ∧ iv = .int .i64 ((f + n : Nat) : Int) ∧ Stk base wr vi (st ++ (kids p ⟨x, y, f, g, m, k, d⟩).take n) ∧ wr.heap[w.heap.size]? = some (.cells (attC ⟨x, y, f, g, m, k, d⟩).toArray 68 (0, 0)) ∧ wr.heap[w.heap.size + 1]? = some (.cells #[.slice pa A.length ca, .slice pb B.length cb] 48 (0, 0)) ∧ Fr (fun q => v.ownBlock = some q) w wr ∧ w.heap.size + 2 ≤ wr.heap.size ∧ (vi.ownBlock = v.ownBlock ∨ ∃ q, vi.ownBlock = some q ∧ w.heap.size + 2 ≤ q)) (fun _ i _ => p.n - (intOf i).toNat)
  case atStart =>
    obtain ⟨n, h1, h2, h3, h4, h5, h6, h7⟩ := HI.out
    exact ⟨n, h1, by rw [h2]; rfl, h3, h4, h5, h6, h7, .inl rfl⟩
  case round =>
    obtain ⟨n, hn1, rfl, hst, hb, hs, hfr, hsz, hown⟩ := hrel
    obtain ⟨i, hi⟩ : ∃ i, f + n = i := ⟨_, rfl⟩
    rw [hi]
    have HI2 := hid hi
    have x0 : wr.cell? ⟨w.heap.size + 1, 0, none⟩ = some (.slice pa A.length ca) := cell_box hs rfl
    by_cases hlt : i < A.length
    · have hip : i < p.n := by rw [← HL.out]; exact hlt
      obtain ⟨ba, oa, hpa, hbl, hc0⟩ := (HA.out.fr hfr (fun b hb1 hb2 => by have := (HS.out.lt hb2).2; omega)).cells i hlt
      rw [HV.out i hlt] at hc0
      subst hpa
      have hc6 := ha6 i hip
      have l0 : wr.drew.cell? ⟨w.heap.size + 1, 0, none⟩ = some (.slice (some ⟨ba, oa, none⟩) A.length ca) := x0
      have l1 : wr.drew.cell? ⟨ba, oa + i, none⟩ = some (.int .i64 (p.a i)) := hc0
      have nb0 : (wr.alloc (Obj.cells #[.int .i64 0, .int .i64 0, .int .i64 0, .int .i64 0, .int .i64 0, .int .i64 0, .int .i64 0, .int .i64 0, .int .i64 0, .int .i64 0, .int .i64 0, .int .i64 0, .int .u64 0, .int .u64 0, .int .i64 0] 68)).drew.heap[w.heap.size]? = some (.cells (attC ⟨x, y, f, g, m, k, d⟩).toArray 68 (0,0)) := (below_blk (alloc_below0 wr _).drew hb)
      have l2 : (wr.alloc (Obj.cells #[.int .i64 0, .int .i64 0, .int .i64 0, .int .i64 0, .int .i64 0, .int .i64 0, .int .i64 0, .int .i64 0, .int .i64 0, .int .i64 0, .int .i64 0, .int .i64 0, .int .u64 0, .int .u64 0, .int .i64 0] 68)).drew.cell? ⟨w.heap.size + 1, 0, none⟩ = some (.slice (some ⟨ba, oa, none⟩) A.length ca) := below_cell (alloc_below0 wr _).drew _ _ x0
      have l3 : (wr.alloc (Obj.cells #[.int .i64 0, .int .i64 0, .int .i64 0, .int .i64 0, .int .i64 0, .int .i64 0, .int .i64 0, .int .i64 0, .int .i64 0, .int .i64 0, .int .i64 0, .int .i64 0, .int .u64 0, .int .u64 0, .int .i64 0] 68)).drew.cell? ⟨ba, oa + i, none⟩ = some (.int .i64 (p.a i)) := below_cell (alloc_below0 wr _).drew _ _ hc0
      have c0 : wr.drew.cell? ⟨w.heap.size, 0, none⟩ = some (.int .i64 (x 0)) := cell_box (W := wr.drew) hb rfl
      have c1 : wr.drew.cell? ⟨w.heap.size, 1, none⟩ = some (.int .i64 (x 1)) := cell_box (W := wr.drew) hb rfl
      have c2 : wr.drew.cell? ⟨w.heap.size, 2, none⟩ = some (.int .i64 (x 2)) := cell_box (W := wr.drew) hb rfl
      have c3 : wr.drew.cell? ⟨w.heap.size, 3, none⟩ = some (.int .i64 (x 3)) := cell_box (W := wr.drew) hb rfl
      have c4 : wr.drew.cell? ⟨w.heap.size, 4, none⟩ = some (.int .i64 (x 4)) := cell_box (W := wr.drew) hb rfl
      have c5 : wr.drew.cell? ⟨w.heap.size, 5, none⟩ = some (.int .i64 (y 0)) := cell_box (W := wr.drew) hb rfl
      have c6 : wr.drew.cell? ⟨w.heap.size, 6, none⟩ = some (.int .i64 (y 1)) := cell_box (W := wr.drew) hb rfl
      have c7 : wr.drew.cell? ⟨w.heap.size, 7, none⟩ = some (.int .i64 (y 2)) := cell_box (W := wr.drew) hb rfl
      have c8 : wr.drew.cell? ⟨w.heap.size, 8, none⟩ = some (.int .i64 (y 3)) := cell_box (W := wr.drew) hb rfl
      have c9 : wr.drew.cell? ⟨w.heap.size, 9, none⟩ = some (.int .i64 (y 4)) := cell_box (W := wr.drew) hb rfl
      have c10 : wr.drew.cell? ⟨w.heap.size, 10, none⟩ = some (.int .i64 (f)) := cell_box (W := wr.drew) hb rfl
      have c11 : wr.drew.cell? ⟨w.heap.size, 11, none⟩ = some (.int .i64 (g)) := cell_box (W := wr.drew) hb rfl
      have c12 : wr.drew.cell? ⟨w.heap.size, 12, none⟩ = some (.int .u64 (m)) := cell_box (W := wr.drew) hb rfl
      have c13 : wr.drew.cell? ⟨w.heap.size, 13, none⟩ = some (.int .u64 (k)) := cell_box (W := wr.drew) hb rfl
      have c14 : wr.drew.cell? ⟨w.heap.size, 14, none⟩ = some (.int .i64 (d)) := cell_box (W := wr.drew) hb rfl
      have e0 : (wr.alloc (Obj.cells #[.int .i64 0, .int .i64 0, .int .i64 0, .int .i64 0, .int .i64 0, .int .i64 0, .int .i64 0, .int .i64 0, .int .i64 0, .int .i64 0, .int .i64 0, .int .i64 0, .int .u64 0, .int .u64 0, .int .i64 0] 68)).drew.cell? ⟨w.heap.size, 0, none⟩ = some (.int .i64 (x 0)) := cell_box (W := (wr.alloc (Obj.cells #[.int .i64 0, .int .i64 0, .int .i64 0, .int .i64 0, .int .i64 0, .int .i64 0, .int .i64 0, .int .i64 0, .int .i64 0, .int .i64 0, .int .i64 0, .int .i64 0, .int .u64 0, .int .u64 0, .int .i64 0] 68)).drew) nb0 rfl
      have e1 : (wr.alloc (Obj.cells #[.int .i64 0, .int .i64 0, .int .i64 0, .int .i64 0, .int .i64 0, .int .i64 0, .int .i64 0, .int .i64 0, .int .i64 0, .int .i64 0, .int .i64 0, .int .i64 0, .int .u64 0, .int .u64 0, .int .i64 0] 68)).drew.cell? ⟨w.heap.size, 1, none⟩ = some (.int .i64 (x 1)) := cell_box (W := (wr.alloc (Obj.cells #[.int .i64 0, .int .i64 0, .int .i64 0, .int .i64 0, .int .i64 0, .int .i64 0, .int .i64 0, .int .i64 0, .int .i64 0, .int .i64 0, .int .i64 0, .int .i64 0, .int .u64 0, .int .u64 0, .int .i64 0] 68)).drew) nb0 rfl
      have e2 : (wr.alloc (Obj.cells #[.int .i64 0, .int .i64 0, .int .i64 0, .int .i64 0, .int .i64 0, .int .i64 0, .int .i64 0, .int .i64 0, .int .i64 0, .int .i64 0, .int .i64 0, .int .i64 0, .int .u64 0, .int .u64 0, .int .i64 0] 68)).drew.cell? ⟨w.heap.size, 2, none⟩ = some (.int .i64 (x 2)) := cell_box (W := (wr.alloc (Obj.cells #[.int .i64 0, .int .i64 0, .int .i64 0, .int .i64 0, .int .i64 0, .int .i64 0, .int .i64 0, .int .i64 0, .int .i64 0, .int .i64 0, .int .i64 0, .int .i64 0, .int .u64 0, .int .u64 0, .int .i64 0] 68)).drew) nb0 rfl
      have e3 : (wr.alloc (Obj.cells #[.int .i64 0, .int .i64 0, .int .i64 0, .int .i64 0, .int .i64 0, .int .i64 0, .int .i64 0, .int .i64 0, .int .i64 0, .int .i64 0, .int .i64 0, .int .i64 0, .int .u64 0, .int .u64 0, .int .i64 0] 68)).drew.cell? ⟨w.heap.size, 3, none⟩ = some (.int .i64 (x 3)) := cell_box (W := (wr.alloc (Obj.cells #[.int .i64 0, .int .i64 0, .int .i64 0, .int .i64 0, .int .i64 0, .int .i64 0, .int .i64 0, .int .i64 0, .int .i64 0, .int .i64 0, .int .i64 0, .int .i64 0, .int .u64 0, .int .u64 0, .int .i64 0] 68)).drew) nb0 rfl
      have e4 : (wr.alloc (Obj.cells #[.int .i64 0, .int .i64 0, .int .i64 0, .int .i64 0, .int .i64 0, .int .i64 0, .int .i64 0, .int .i64 0, .int .i64 0, .int .i64 0, .int .i64 0, .int .i64 0, .int .u64 0, .int .u64 0, .int .i64 0] 68)).drew.cell? ⟨w.heap.size, 4, none⟩ = some (.int .i64 (x 4)) := cell_box (W := (wr.alloc (Obj.cells #[.int .i64 0, .int .i64 0, .int .i64 0, .int .i64 0, .int .i64 0, .int .i64 0, .int .i64 0, .int .i64 0, .int .i64 0, .int .i64 0, .int .i64 0, .int .i64 0, .int .u64 0, .int .u64 0, .int .i64 0] 68)).drew) nb0 rfl
      have e5 : (wr.alloc (Obj.cells #[.int .i64 0, .int .i64 0, .int .i64 0, .int .i64 0, .int .i64 0, .int .i64 0, .int .i64 0, .int .i64 0, .int .i64 0, .int .i64 0, .int .i64 0, .int .i64 0, .int .u64 0, .int .u64 0, .int .i64 0] 68)).drew.cell? ⟨w.heap.size, 5, none⟩ = some (.int .i64 (y 0)) := cell_box (W := (wr.alloc (Obj.cells #[.int .i64 0, .int .i64 0, .int .i64 0, .int .i64 0, .int .i64 0, .int .i64 0, .int .i64 0, .int .i64 0, .int .i64 0, .int .i64 0, .int .i64 0, .int .i64 0, .int .u64 0, .int .u64 0, .int .i64 0] 68)).drew) nb0 rfl
      have e6 : (wr.alloc (Obj.cells #[.int .i64 0, .int .i64 0, .int .i64 0, .int .i64 0, .int .i64 0, .int .i64 0, .int .i64 0, .int .i64 0, .int .i64 0, .int .i64 0, .int .i64 0, .int .i64 0, .int .u64 0, .int .u64 0, .int .i64 0] 68)).drew.cell? ⟨w.heap.size, 6, none⟩ = some (.int .i64 (y 1)) := cell_box (W := (wr.alloc (Obj.cells #[.int .i64 0, .int .i64 0, .int .i64 0, .int .i64 0, .int .i64 0, .int .i64 0, .int .i64 0, .int .i64 0, .int .i64 0, .int .i64 0, .int .i64 0, .int .i64 0, .int .u64 0, .int .u64 0, .int .i64 0] 68)).drew) nb0 rfl
      have e7 : (wr.alloc (Obj.cells #[.int .i64 0, .int .i64 0, .int .i64 0, .int .i64 0, .int .i64 0, .int .i64 0, .int .i64 0, .int .i64 0, .int .i64 0, .int .i64 0, .int .i64 0, .int .i64 0, .int .u64 0, .int .u64 0, .int .i64 0] 68)).drew.cell? ⟨w.heap.size, 7, none⟩ = some (.int .i64 (y 2)) := cell_box (W := (wr.alloc (Obj.cells #[.int .i64 0, .int .i64 0, .int .i64 0, .int .i64 0, .int .i64 0, .int .i64 0, .int .i64 0, .int .i64 0, .int .i64 0, .int .i64 0, .int .i64 0, .int .i64 0, .int .u64 0, .int .u64 0, .int .i64 0] 68)).drew) nb0 rfl
      have e8 : (wr.alloc (Obj.cells #[.int .i64 0, .int .i64 0, .int .i64 0, .int .i64 0, .int .i64 0, .int .i64 0, .int .i64 0, .int .i64 0, .int .i64 0, .int .i64 0, .int .i64 0, .int .i64 0, .int .u64 0, .int .u64 0, .int .i64 0] 68)).drew.cell? ⟨w.heap.size, 8, none⟩ = some (.int .i64 (y 3)) := cell_box (W := (wr.alloc (Obj.cells #[.int .i64 0, .int .i64 0, .int .i64 0, .int .i64 0, .int .i64 0, .int .i64 0, .int .i64 0, .int .i64 0, .int .i64 0, .int .i64 0, .int .i64 0, .int .i64 0, .int .u64 0, .int .u64 0, .int .i64 0] 68)).drew) nb0 rfl
      have e9 : (wr.alloc (Obj.cells #[.int .i64 0, .int .i64 0, .int .i64 0, .int .i64 0, .int .i64 0, .int .i64 0, .int .i64 0, .int .i64 0, .int .i64 0, .int .i64 0, .int .i64 0, .int .i64 0, .int .u64 0, .int .u64 0, .int .i64 0] 68)).drew.cell? ⟨w.heap.size, 9, none⟩ = some (.int .i64 (y 4)) := cell_box (W := (wr.alloc (Obj.cells #[.int .i64 0, .int .i64 0, .int .i64 0, .int .i64 0, .int .i64 0, .int .i64 0, .int .i64 0, .int .i64 0, .int .i64 0, .int .i64 0, .int .i64 0, .int .i64 0, .int .u64 0, .int .u64 0, .int .i64 0] 68)).drew) nb0 rfl
      have e10 : (wr.alloc (Obj.cells #[.int .i64 0, .int .i64 0, .int .i64 0, .int .i64 0, .int .i64 0, .int .i64 0, .int .i64 0, .int .i64 0, .int .i64 0, .int .i64 0, .int .i64 0, .int .i64 0, .int .u64 0, .int .u64 0, .int .i64 0] 68)).drew.cell? ⟨w.heap.size, 10, none⟩ = some (.int .i64 (f)) := cell_box (W := (wr.alloc (Obj.cells #[.int .i64 0, .int .i64 0, .int .i64 0, .int .i64 0, .int .i64 0, .int .i64 0, .int .i64 0, .int .i64 0, .int .i64 0, .int .i64 0, .int .i64 0, .int .i64 0, .int .u64 0, .int .u64 0, .int .i64 0] 68)).drew) nb0 rfl
      have e11 : (wr.alloc (Obj.cells #[.int .i64 0, .int .i64 0, .int .i64 0, .int .i64 0, .int .i64 0, .int .i64 0, .int .i64 0, .int .i64 0, .int .i64 0, .int .i64 0, .int .i64 0, .int .i64 0, .int .u64 0, .int .u64 0, .int .i64 0] 68)).drew.cell? ⟨w.heap.size, 11, none⟩ = some (.int .i64 (g)) := cell_box (W := (wr.alloc (Obj.cells #[.int .i64 0, .int .i64 0, .int .i64 0, .int .i64 0, .int .i64 0, .int .i64 0, .int .i64 0, .int .i64 0, .int .i64 0, .int .i64 0, .int .i64 0, .int .i64 0, .int .u64 0, .int .u64 0, .int .i64 0] 68)).drew) nb0 rfl
      have e12 : (wr.alloc (Obj.cells #[.int .i64 0, .int .i64 0, .int .i64 0, .int .i64 0, .int .i64 0, .int .i64 0, .int .i64 0, .int .i64 0, .int .i64 0, .int .i64 0, .int .i64 0, .int .i64 0, .int .u64 0, .int .u64 0, .int .i64 0] 68)).drew.cell? ⟨w.heap.size, 12, none⟩ = some (.int .u64 (m)) := cell_box (W := (wr.alloc (Obj.cells #[.int .i64 0, .int .i64 0, .int .i64 0, .int .i64 0, .int .i64 0, .int .i64 0, .int .i64 0, .int .i64 0, .int .i64 0, .int .i64 0, .int .i64 0, .int .i64 0, .int .u64 0, .int .u64 0, .int .i64 0] 68)).drew) nb0 rfl
      have e13 : (wr.alloc (Obj.cells #[.int .i64 0, .int .i64 0, .int .i64 0, .int .i64 0, .int .i64 0, .int .i64 0, .int .i64 0, .int .i64 0, .int .i64 0, .int .i64 0, .int .i64 0, .int .i64 0, .int .u64 0, .int .u64 0, .int .i64 0] 68)).drew.cell? ⟨w.heap.size, 13, none⟩ = some (.int .u64 (k)) := cell_box (W := (wr.alloc (Obj.cells #[.int .i64 0, .int .i64 0, .int .i64 0, .int .i64 0, .int .i64 0, .int .i64 0, .int .i64 0, .int .i64 0, .int .i64 0, .int .i64 0, .int .i64 0, .int .i64 0, .int .u64 0, .int .u64 0, .int .i64 0] 68)).drew) nb0 rfl
      have e14 : (wr.alloc (Obj.cells #[.int .i64 0, .int .i64 0, .int .i64 0, .int .i64 0, .int .i64 0, .int .i64 0, .int .i64 0, .int .i64 0, .int .i64 0, .int .i64 0, .int .i64 0, .int .i64 0, .int .u64 0, .int .u64 0, .int .i64 0] 68)).drew.cell? ⟨w.heap.size, 14, none⟩ = some (.int .i64 (d)) := cell_box (W := (wr.alloc (Obj.cells #[.int .i64 0, .int .i64 0, .int .i64 0, .int .i64 0, .int .i64 0, .int .i64 0, .int .i64 0, .int .i64 0, .int .i64 0, .int .i64 0, .int .i64 0, .int .i64 0, .int .u64 0, .int .u64 0, .int .i64 0] 68)).drew) nb0 rfl
      have HB := hid hb; have HSD := hid hs
      have HST := hid hst; have HFR := hid hfr; have HOW := hid hown
      clear nb0 hb hs hst hfr hown hc0 hbl
      go_wp2_with fail
      go_region
      clear c0 e0 c1 e1 c2 e2 c3 e3 c4 e4 c5 e5 c6 e6 c7 e7 c8 e8 c9 e9 c10 e10 c11 e11 c12 e12 c13 e13 c14 e14 l0 l1 l2 l3
      obtain ⟨W1, hW1⟩ : ∃ W, W = (wr.alloc (Obj.cells #[.int .i64 (x 0), .int .i64 (x 1), .int .i64 (x 2), .int .i64 (x 3), .int .i64 (x 4), .int .i64 (y 0), .int .i64 (y 1), .int .i64 (y 2), .int .i64 (y 3), .int .i64 (y 4), .int .i64 (f), .int .i64 (g), .int .u64 (m), .int .u64 (k), .int .i64 (d)] 68)).drew := ⟨_, rfl⟩
      rw [← hW1]
      have hw1 : W1.heap[wr.heap.size]? = some (.cells (attC ⟨x, y, f, g, m, k, d⟩).toArray 68 (0, 0)) := by rw [hW1]; exact World.alloc_heap_new wr _
      have bl1 : Below wr.heap.size wr W1 := by rw [hW1]; exact (alloc_below0 wr _).drew
      have sz1 : W1.heap.size = wr.heap.size + 1 := by rw [hW1]; exact World.size_alloc wr _
      have i5 : i < 5 := by omega
      have c1 : W1.drew.cell? ⟨wr.heap.size, i, none⟩ = some (.int .i64 (x i)) := cells_box15 (W := W1.drew) hw1 (getX ⟨x, y, f, g, m, k, d⟩ i i5)
      have f1 : W1.drew.frozen? ⟨wr.heap.size, i, none⟩ = false := free_box (W := W1.drew) hw1
      have hxi := hx i
      have e1 : IntKind.i64.wrap ((x i : Int) + 1) = (x i : Int) + 1 := IntWalk.i64_in _ (by constructor <;> omega)
      have hw2 : (W1.setCell ⟨wr.heap.size, i, none⟩ (.int .i64 ((x i : Int) + 1))).heap[wr.heap.size]? = some (.cells (attC ⟨(up x i), y, f, g, m, k, d⟩).toArray 68 (0, 0)) := by rw [block_set hw1, setX ⟨x, y, f, g, m, k, d⟩ i i5]
      have bl2 : Below wr.heap.size wr (W1.setCell ⟨wr.heap.size, i, none⟩ (.int .i64 ((x i : Int) + 1))).drew := (bl1.setCell (p := ⟨wr.heap.size, i, none⟩) (Nat.le_refl _) _).drew
      have sz2 : (W1.setCell ⟨wr.heap.size, i, none⟩ (.int .i64 ((x i : Int) + 1))).drew.heap.size = wr.heap.size + 1 := by rw [← sz1]; simp [World.setCell, World.drew]
      have HW2 := hid hw2; have HB2 := hid bl2; have HZ2 := hid sz2
      clear hW1 hw1 bl1 sz1 hw2 bl2 sz2
      go_wp2_with fail
      go_region
      clear c1 f1
      obtain ⟨W2, hW2⟩ : ∃ W, W = (W1.setCell ⟨wr.heap.size, i, none⟩ (.int .i64 ((x i : Int) + 1))).drew := ⟨_, rfl⟩
      rw [← hW2]
      have hw2 : W2.heap[wr.heap.size]? = some (.cells (attC ⟨(up x i), y, f, g, m, k, d⟩).toArray 68 (0, 0)) := by rw [hW2]; exact HW2.out
      have bl2 : Below wr.heap.size wr W2 := by rw [hW2]; exact HB2.out
      have sz2 : W2.heap.size = wr.heap.size + 1 := by rw [hW2]; exact HZ2.out
      clear hW2 HW2 HB2 HZ2
      have c1 : W2.cell? ⟨wr.heap.size, 10, none⟩ = some (.int .i64 f) := cell_box hw2 rfl
      have f1 : W2.frozen? ⟨wr.heap.size, 10, none⟩ = false := free_box hw2
      have hw3 : (W2.setCell ⟨wr.heap.size, 10, none⟩ (.int .i64 i)).heap[wr.heap.size]? = some (.cells (attC ⟨(up x i), y, i, g, m, k, d⟩).toArray 68 (0, 0)) := block_set hw2 _
      have bl3 : Below wr.heap.size wr (W2.setCell ⟨wr.heap.size, 10, none⟩ (.int .i64 i)) := bl2.setCell (p := ⟨wr.heap.size, 10, none⟩) (Nat.le_refl _) _
      have sz3 : (W2.setCell ⟨wr.heap.size, 10, none⟩ (.int .i64 i)).heap.size = wr.heap.size + 1 := by rw [← sz2]; simp [World.setCell]
      have HW3 := hid hw3; have HB3 := hid bl3; have HZ3 := hid sz3
      clear hw2 bl2 sz2 hw3 bl3 sz3
      go_upto_region 10 with fail
      clear c1 f1
      obtain ⟨W3, hW3⟩ : ∃ W, W = W2.setCell ⟨wr.heap.size, 10, none⟩ (.int .i64 i) := ⟨_, rfl⟩
      rw [← hW3] at HW3 HB3 HZ3 ⊢
      clear hW3
      have c1 : W3.cell? ⟨w.heap.size, 12, none⟩ = some (.int .u64 m) := cell_box (below_blk HB3.out HB.out) rfl
      have c2 : W3.cell? ⟨wr.heap.size, 12, none⟩ = some (.int .u64 m) := cell_box HW3.out rfl
      have f2 : W3.frozen? ⟨wr.heap.size, 12, none⟩ = false := free_box HW3.out
      have HC := hid (withOne_any m (p.a i) W3 hm (by omega))
      have hw4 : (W3.setCell ⟨wr.heap.size, 12, none⟩ (.int .u64 (one m (p.a i) : Nat))).heap[wr.heap.size]? = some (.cells (attC ⟨(up x i), y, i, g, (one m (p.a i)), k, d⟩).toArray 68 (0, 0)) := block_set HW3.out _
      have bl4 : Below wr.heap.size wr (W3.setCell ⟨wr.heap.size, 12, none⟩ (.int .u64 (one m (p.a i) : Nat))) := HB3.out.setCell (p := ⟨wr.heap.size, 12, none⟩) (Nat.le_refl _) _
      have sz4 : (W3.setCell ⟨wr.heap.size, 12, none⟩ (.int .u64 (one m (p.a i) : Nat))).heap.size = wr.heap.size + 1 := by rw [← HZ3.out]; simp [World.setCell]
      have HW4 := hid hw4; have HB4 := hid bl4; have HZ4 := hid sz4
      clear hw4 bl4 sz4
      go_wp2_with fail
      refine HC.out.mono ?_
      rintro e w1 ⟨rfl, rfl⟩
      go_upto_region 11 with fail
      clear c1 c2 f2
      generalize w1.setCell ⟨wr.heap.size, 12, none⟩ (.int .u64 (one m (p.a i) : Nat)) = W4 at HW4 HB4 HZ4 ⊢
      have c1 : W4.cell? ⟨wr.heap.size, 14, none⟩ = some (.int .i64 d) := cell_box HW4.out rfl
      have f1 : W4.frozen? ⟨wr.heap.size, 14, none⟩ = false := free_box HW4.out
      have e2 : IntKind.i64.wrap (d + (p.a i : Int)) = d + (p.a i : Int) := IntWalk.i64_in _ (by constructor <;> omega)
      have hw5 : (W4.setCell ⟨wr.heap.size, 14, none⟩ (.int .i64 (d + (p.a i : Int)))).heap[wr.heap.size]? = some (.cells (attC ⟨(up x i), y, i, g, (one m (p.a i)), k, (d + p.a i)⟩).toArray 68 (0, 0)) := block_set HW4.out _
      have bl5 : Below wr.heap.size wr (W4.setCell ⟨wr.heap.size, 14, none⟩ (.int .i64 (d + (p.a i : Int)))) := HB4.out.setCell (p := ⟨wr.heap.size, 14, none⟩) (Nat.le_refl _) _
      have sz5 : (W4.setCell ⟨wr.heap.size, 14, none⟩ (.int .i64 (d + (p.a i : Int)))).heap.size = wr.heap.size + 1 := by rw [← HZ4.out]; simp [World.setCell]
      have HW5 := hid hw5; have HB5 := hid bl5; have HZ5 := hid sz5
      clear hw5 bl5 sz5
      go_upto_region 12 with fail
      clear c1 f1
      generalize W4.setCell ⟨wr.heap.size, 14, none⟩ (.int .i64 (d + (p.a i : Int))) = W5 at HW5 HB5 HZ5 ⊢
      have c0 : W5.cell? ⟨wr.heap.size, 0, none⟩ = some (.int .i64 (up x i 0)) := cell_box (W := W5) HW5.out rfl
      have c1 : W5.cell? ⟨wr.heap.size, 1, none⟩ = some (.int .i64 (up x i 1)) := cell_box (W := W5) HW5.out rfl
      have c2 : W5.cell? ⟨wr.heap.size, 2, none⟩ = some (.int .i64 (up x i 2)) := cell_box (W := W5) HW5.out rfl
      have c3 : W5.cell? ⟨wr.heap.size, 3, none⟩ = some (.int .i64 (up x i 3)) := cell_box (W := W5) HW5.out rfl
      have c4 : W5.cell? ⟨wr.heap.size, 4, none⟩ = some (.int .i64 (up x i 4)) := cell_box (W := W5) HW5.out rfl
      have c5 : W5.cell? ⟨wr.heap.size, 5, none⟩ = some (.int .i64 (y 0)) := cell_box (W := W5) HW5.out rfl
      have c6 : W5.cell? ⟨wr.heap.size, 6, none⟩ = some (.int .i64 (y 1)) := cell_box (W := W5) HW5.out rfl
      have c7 : W5.cell? ⟨wr.heap.size, 7, none⟩ = some (.int .i64 (y 2)) := cell_box (W := W5) HW5.out rfl
      have c8 : W5.cell? ⟨wr.heap.size, 8, none⟩ = some (.int .i64 (y 3)) := cell_box (W := W5) HW5.out rfl
      have c9 : W5.cell? ⟨wr.heap.size, 9, none⟩ = some (.int .i64 (y 4)) := cell_box (W := W5) HW5.out rfl
      have c10 : W5.cell? ⟨wr.heap.size, 10, none⟩ = some (.int .i64 (i)) := cell_box (W := W5) HW5.out rfl
      have c11 : W5.cell? ⟨wr.heap.size, 11, none⟩ = some (.int .i64 (g)) := cell_box (W := W5) HW5.out rfl
      have c12 : W5.cell? ⟨wr.heap.size, 12, none⟩ = some (.int .u64 (one m (p.a i))) := cell_box (W := W5) HW5.out rfl
      have c13 : W5.cell? ⟨wr.heap.size, 13, none⟩ = some (.int .u64 (k)) := cell_box (W := W5) HW5.out rfl
      have c14 : W5.cell? ⟨wr.heap.size, 14, none⟩ = some (.int .i64 (d + p.a i)) := cell_box (W := W5) HW5.out rfl
      obtain ⟨C5, hC5⟩ : ∃ C, C = (Obj.cells #[.int .i64 (up x i 0), .int .i64 (up x i 1), .int .i64 (up x i 2), .int .i64 (up x i 3), .int .i64 (up x i 4), .int .i64 (y 0), .int .i64 (y 1), .int .i64 (y 2), .int .i64 (y 3), .int .i64 (y 4), .int .i64 (i), .int .i64 (g), .int .u64 (one m (p.a i)), .int .u64 (k), .int .i64 (d + p.a i)] 68) := ⟨_, rfl⟩
      have hS5 : Stk base (W5.alloc C5) u1 (st ++ (kids p ⟨x, y, f, g, m, k, d⟩).take n) := HST.out.below (fun q hq => by
        have h1 := (HST.out.lt hq).1
        exact ((alloc_below0 W5 C5).block q (by have := HZ5.out; omega)).trans (HB5.out.block q h1))
      obtain ⟨v', W6, hr, hS6, hF6, hO6⟩ := run_appT 69 base u1 (st ++ (kids p ⟨x, y, f, g, m, k, d⟩).take n) ⟨(up x i), y, i, g, (one m (p.a i)), k, (d + p.a i)⟩ (W5.alloc C5) hS5 W5.heap.size (by rw [hC5]; exact World.alloc_heap_new W5 _) (by
        have h1 := HKL.out
        rw [List.length_append, List.length_take]
        omega) (by rw [World.size_alloc, HZ5.out]; omega)
      rw [hC5] at hr
      have hfin : ∃ n', n' = n + 1 ∧ n' ≤ p.n - f ∧ Stk base W6 v' (st ++ (kids p ⟨x, y, f, g, m, k, d⟩).take n') ∧ W6.heap[w.heap.size]? = some (.cells (attC ⟨x, y, f, g, m, k, d⟩).toArray 68 (0, 0)) ∧ W6.heap[w.heap.size + 1]? = some (.cells #[.slice (some ⟨ba, oa, none⟩) A.length ca, .slice pb B.length cb] 48 (0, 0)) ∧ Fr (fun q => v.ownBlock = some q) w W6 ∧ w.heap.size + 2 ≤ W6.heap.size ∧ (v'.ownBlock = v.ownBlock ∨ ∃ q, v'.ownBlock = some q ∧ w.heap.size + 2 ≤ q) := by
        have hne : ∀ q, q = w.heap.size ∨ q = w.heap.size + 1 → ¬ u1.ownBlock = some q := fun q hq e => by
          rcases HOW.out with h | ⟨r, h, hr⟩
          · have := (HS.out.lt (h.symm.trans e)).1
            omega
          · rw [h] at e
            have := Option.some.inj e
            omega
        have hb5 : Below wr.heap.size wr (W5.alloc C5) := HB5.out.trans ((alloc_below0 W5 C5).mono (by have := HZ5.out; omega))
        have hz5 := hF6.low.size
        rw [World.size_alloc, HZ5.out] at hz5
        have old : ∀ q, q < wr.heap.size → ¬ u1.ownBlock = some q → W6.heap[q]? = wr.heap[q]? := fun q hq hn => (hF6.same q (by rw [World.size_alloc, HZ5.out]; omega) hn).trans (hb5.block q hq)
        refine ⟨n + 1, rfl, by have := HI2.out; omega, ?_, (old _ (by omega) (hne _ (.inl rfl))).trans HB.out, (old _ (by omega) (hne _ (.inr rfl))).trans HSD.out, ?_, by omega, ?_⟩
        · have h1 := HK.out (n + 1) (by have := HI2.out; omega)
          have h0 := HK.out n (by have := HI2.out; omega)
          rw [h1, List.range_succ, List.map_append, ← h0, ← List.append_assoc]
          rw [show (List.map (fun i => kidX p ⟨x, y, f, g, m, k, d⟩ (f + i)) [n]) = [(⟨(up x i), y, i, g, (one m (p.a i)), k, (d + p.a i)⟩ : Tr)] by rw [List.map_singleton, HI2.out]; rfl]
          exact hS6
        · refine ⟨HFR.out.low.trans ((hb5.mono (Nat.zero_le _)).trans hF6.low), fun q hq hA => ?_⟩
          by_cases hu : u1.ownBlock = some q
          · rcases HOW.out with h | ⟨r, h, hr⟩
            · exact absurd (h.symm.trans hu) hA
            · rw [h] at hu
              have := Option.some.inj hu
              omega
          · exact (old q (by omega) hu).trans (HFR.out.same q hq hA)
        · rcases hO6 with h | h
          · rcases HOW.out with h' | ⟨r, h', hr⟩
            · exact .inl (h.trans h')
            · exact .inr ⟨r, h.trans h', hr⟩
          · rw [World.size_alloc, HZ5.out] at h
            exact .inr ⟨_, h, by omega⟩
      have HR := hid hr; have HFIN := hid hfin
      clear hr hS6 hF6 hO6 hS5 hC5 hfin
      go_wp2_with (first
        | (at_builtin; refine Lib.wpList_append_run _ rfl _ _ _ _ rfl _ _ rfl rfl _ _ HR.out ?_; clear HR)
        | fail)
      have HM : Hid (p.n - (i + 1) < p.n - i) := hid (by omega)
      go_roundw
      case rel =>
        obtain ⟨n', h0, h1, h2⟩ := HFIN.out
        subst h0
        exact ⟨n + 1, h1, by have := HI2.out; rw [← this]; rfl, h2⟩
      case measure => simp [intOf]; omega
    · have hnn : n = p.n - f := by have := HI2.out; have := HL.out; omega
      have hk : (kids p ⟨x, y, f, g, m, k, d⟩).take n = kids p ⟨x, y, f, g, m, k, d⟩ := List.take_of_length_le (by rw [HKL.out]; omega)
      rw [hk] at hst
      have HF : Hid (∃ v', u1 = v' ∧ Stk base wr v' (st ++ kids p ⟨x, y, f, g, m, k, d⟩) ∧ Fr (fun q => v.ownBlock = some q) w wr ∧ (v'.ownBlock = v.ownBlock ∨ ∃ q, v'.ownBlock = some q ∧ w.heap.size ≤ q)) := hid ⟨u1, rfl, hst, hfr, by
        rcases hown with h | ⟨q, h, hq⟩
        · exact .inl h
        · exact .inr ⟨q, h, by omega⟩⟩
      clear hst hb hs hfr hown hk hnn
      go_wp2_with fail
      go_ret
      obtain ⟨v', h1, h2⟩ := HF.out
      subst h1
      exact ⟨_, rfl, h2⟩

set_option maxRecDepth 100000 in
set_option maxHeartbeats 8000000 in
theorem pushY_any (p : Pb) (x y : Nat → Nat) (f g m k : Nat) (d : Int) (base : Nat) (v : Value) (st : List Tr) (pa pb : Option Addr) (ca cb : Nat) (A B : List Int) (w : World) (hA : IntsIn (fun b => b < base) w pb B) (hl : B.length = p.q) (ha : ∀ i (h : i < B.length), B[i] = (p.b i : Int))
    (ha6 : ∀ i, i < p.q → 1 ≤ p.b i ∧ p.b i ≤ 6) (h5 : p.q ≤ 5) (hm : k < 2 ^ 37) (hx : ∀ i, y i ≤ 100) (hd : 0 < d) (hdl : d ≤ 6) (hn : st.length + 5 ≤ 1000000000000) (hS : Stk base w v st) (hbase : base ≤ w.heap.size) :
    Calls Try.prog 52 #[attV ⟨x, y, f, g, m, k, d⟩, v, .agg #[.slice pa A.length ca, .slice pb B.length cb]] w fun e w' => ∃ v', e = .returned v' ∧ Stk base w' v' (st ++ kids p ⟨x, y, f, g, m, k, d⟩) ∧ Fr (fun q => v.ownBlock = some q) w w' ∧ (v'.ownBlock = v.ownBlock ∨ ∃ q, v'.ownBlock = some q ∧ w.heap.size ≤ q) := by
  have HA := hid hA; have HS := hid hS
  have h5' : B.length ≤ 5 := by omega
  obtain ⟨W0, hW0⟩ : ∃ W, W = (w.alloc (Obj.cells #[.int .i64 (x 0), .int .i64 (x 1), .int .i64 (x 2), .int .i64 (x 3), .int .i64 (x 4), .int .i64 (y 0), .int .i64 (y 1), .int .i64 (y 2), .int .i64 (y 3), .int .i64 (y 4), .int .i64 (f), .int .i64 (g), .int .u64 (m), .int .u64 (k), .int .i64 (d)] 68)).alloc (.cells #[.slice pa A.length ca, .slice pb B.length cb] 48) := ⟨_, rfl⟩
  have b1 := alloc_below0 w (Obj.cells #[.int .i64 (x 0), .int .i64 (x 1), .int .i64 (x 2), .int .i64 (x 3), .int .i64 (x 4), .int .i64 (y 0), .int .i64 (y 1), .int .i64 (y 2), .int .i64 (y 3), .int .i64 (y 4), .int .i64 (f), .int .i64 (g), .int .u64 (m), .int .u64 (k), .int .i64 (d)] 68)
  have b2 := alloc_below0 (w.alloc (Obj.cells #[.int .i64 (x 0), .int .i64 (x 1), .int .i64 (x 2), .int .i64 (x 3), .int .i64 (x 4), .int .i64 (y 0), .int .i64 (y 1), .int .i64 (y 2), .int .i64 (y 3), .int .i64 (y 4), .int .i64 (f), .int .i64 (g), .int .u64 (m), .int .u64 (k), .int .i64 (d)] 68)) (.cells #[.slice pa A.length ca, .slice pb B.length cb] 48)
  rw [World.size_alloc] at b2
  have bW0 : Below w.heap.size w W0 := by rw [hW0]; exact b1.trans (b2.mono (by omega))
  have sW0 : W0.heap.size = w.heap.size + 2 := by rw [hW0, World.size_alloc, World.size_alloc]
  have g1 : W0.heap[w.heap.size]? = some (.cells (attC ⟨x, y, f, g, m, k, d⟩).toArray 68 (0, 0)) := by rw [hW0]; exact (b2.block _ (by omega)).trans (World.alloc_heap_new w _)
  have g2 : W0.heap[w.heap.size + 1]? = some (.cells #[.slice pa A.length ca, .slice pb B.length cb] 48 (0, 0)) := by
    have := World.alloc_heap_new (w.alloc (Obj.cells #[.int .i64 (x 0), .int .i64 (x 1), .int .i64 (x 2), .int .i64 (x 3), .int .i64 (x 4), .int .i64 (y 0), .int .i64 (y 1), .int .i64 (y 2), .int .i64 (y 3), .int .i64 (y 4), .int .i64 (f), .int .i64 (g), .int .u64 (m), .int .u64 (k), .int .i64 (d)] 68)) (.cells #[.slice pa A.length ca, .slice pb B.length cb] 48)
    rw [World.size_alloc] at this
    rw [hW0]; exact this
  have hkid : ∀ j, j ≤ p.q - g → (kids p ⟨x, y, f, g, m, k, d⟩).take j = (List.range j).map (fun i => kidY p ⟨x, y, f, g, m, k, d⟩ (g + i)) := fun j hj => by
    unfold kids
    rw [if_pos hd]
    rw [← List.map_take, List.take_range, Nat.min_eq_left hj]
  have hkl : (kids p ⟨x, y, f, g, m, k, d⟩).length = p.q - g := by
    unfold kids
    rw [if_pos hd]
    simp
  have HI : Hid (∃ n : Nat, n ≤ p.q - g ∧ (g : Int) = (g : Int) + n ∧ Stk base W0 v (st ++ (kids p ⟨x, y, f, g, m, k, d⟩).take n) ∧ W0.heap[w.heap.size]? = some (.cells (attC ⟨x, y, f, g, m, k, d⟩).toArray 68 (0, 0)) ∧ W0.heap[w.heap.size + 1]? = some (.cells #[.slice pa A.length ca, .slice pb B.length cb] 48 (0, 0)) ∧ Fr (fun q => v.ownBlock = some q) w W0 ∧ w.heap.size + 2 ≤ W0.heap.size) :=
    hid ⟨0, Nat.zero_le _, by omega, by rw [List.take_zero, List.append_nil]; exact hS.below (fun q hq => bW0.block q (hS.lt hq).1), g1, g2, Fr.of_below bW0, by omega⟩
  have HK := hid hkid; have HKL := hid hkl; have HL := hid hl; have HV := hid ha
  have HW0 := hid hW0
  clear hA hS bW0 sW0 g1 g2 b1 b2 hkid hkl hl ha hW0
  go_enter Try.func52, Try.ntmps52
  go_wp2_with fail
  rw [← HW0.out]
  go_loopw [1, 9] (fun vi iv wr => ∃ n : Nat, n ≤ p.q - g ∧ iv = .int .i64 ((g + n : Nat) : Int) ∧ Stk base wr vi (st ++ (kids p ⟨x, y, f, g, m, k, d⟩).take n) ∧ wr.heap[w.heap.size]? = some (.cells (attC ⟨x, y, f, g, m, k, d⟩).toArray 68 (0, 0)) ∧ wr.heap[w.heap.size + 1]? = some (.cells #[.slice pa A.length ca, .slice pb B.length cb] 48 (0, 0)) ∧ Fr (fun q => v.ownBlock = some q) w wr ∧ w.heap.size + 2 ≤ wr.heap.size ∧ (vi.ownBlock = v.ownBlock ∨ ∃ q, vi.ownBlock = some q ∧ w.heap.size + 2 ≤ q)) (fun _ i _ => p.q - (intOf i).toNat)
  case atStart =>
    obtain ⟨n, h1, h2, h3, h4, h5, h6, h7⟩ := HI.out
    exact ⟨n, h1, by rw [h2]; rfl, h3, h4, h5, h6, h7, .inl rfl⟩
  case round =>
    obtain ⟨n, hn1, rfl, hst, hb, hs, hfr, hsz, hown⟩ := hrel
    obtain ⟨i, hi⟩ : ∃ i, g + n = i := ⟨_, rfl⟩
    rw [hi]
    have HI2 := hid hi
    have x0 : wr.cell? ⟨w.heap.size + 1, 1, none⟩ = some (.slice pb B.length cb) := cell_box hs rfl
    by_cases hlt : i < B.length
    · have hip : i < p.q := by rw [← HL.out]; exact hlt
      obtain ⟨ba, oa, hpa, hbl, hc0⟩ := (HA.out.fr hfr (fun b hb1 hb2 => by have := (HS.out.lt hb2).2; omega)).cells i hlt
      rw [HV.out i hlt] at hc0
      subst hpa
      have hc6 := ha6 i hip
      have l0 : wr.drew.cell? ⟨w.heap.size + 1, 1, none⟩ = some (.slice (some ⟨ba, oa, none⟩) B.length cb) := x0
      have l1 : wr.drew.cell? ⟨ba, oa + i, none⟩ = some (.int .i64 (p.b i)) := hc0
      have nb0 : (wr.alloc (Obj.cells #[.int .i64 0, .int .i64 0, .int .i64 0, .int .i64 0, .int .i64 0, .int .i64 0, .int .i64 0, .int .i64 0, .int .i64 0, .int .i64 0, .int .i64 0, .int .i64 0, .int .u64 0, .int .u64 0, .int .i64 0] 68)).drew.heap[w.heap.size]? = some (.cells (attC ⟨x, y, f, g, m, k, d⟩).toArray 68 (0,0)) := (below_blk (alloc_below0 wr _).drew hb)
      have l2 : (wr.alloc (Obj.cells #[.int .i64 0, .int .i64 0, .int .i64 0, .int .i64 0, .int .i64 0, .int .i64 0, .int .i64 0, .int .i64 0, .int .i64 0, .int .i64 0, .int .i64 0, .int .i64 0, .int .u64 0, .int .u64 0, .int .i64 0] 68)).drew.cell? ⟨w.heap.size + 1, 1, none⟩ = some (.slice (some ⟨ba, oa, none⟩) B.length cb) := below_cell (alloc_below0 wr _).drew _ _ x0
      have l3 : (wr.alloc (Obj.cells #[.int .i64 0, .int .i64 0, .int .i64 0, .int .i64 0, .int .i64 0, .int .i64 0, .int .i64 0, .int .i64 0, .int .i64 0, .int .i64 0, .int .i64 0, .int .i64 0, .int .u64 0, .int .u64 0, .int .i64 0] 68)).drew.cell? ⟨ba, oa + i, none⟩ = some (.int .i64 (p.b i)) := below_cell (alloc_below0 wr _).drew _ _ hc0
      have c0 : wr.drew.cell? ⟨w.heap.size, 0, none⟩ = some (.int .i64 (x 0)) := cell_box (W := wr.drew) hb rfl
      have c1 : wr.drew.cell? ⟨w.heap.size, 1, none⟩ = some (.int .i64 (x 1)) := cell_box (W := wr.drew) hb rfl
      have c2 : wr.drew.cell? ⟨w.heap.size, 2, none⟩ = some (.int .i64 (x 2)) := cell_box (W := wr.drew) hb rfl
      have c3 : wr.drew.cell? ⟨w.heap.size, 3, none⟩ = some (.int .i64 (x 3)) := cell_box (W := wr.drew) hb rfl
      have c4 : wr.drew.cell? ⟨w.heap.size, 4, none⟩ = some (.int .i64 (x 4)) := cell_box (W := wr.drew) hb rfl
      have c5 : wr.drew.cell? ⟨w.heap.size, 5, none⟩ = some (.int .i64 (y 0)) := cell_box (W := wr.drew) hb rfl
      have c6 : wr.drew.cell? ⟨w.heap.size, 6, none⟩ = some (.int .i64 (y 1)) := cell_box (W := wr.drew) hb rfl
      have c7 : wr.drew.cell? ⟨w.heap.size, 7, none⟩ = some (.int .i64 (y 2)) := cell_box (W := wr.drew) hb rfl
      have c8 : wr.drew.cell? ⟨w.heap.size, 8, none⟩ = some (.int .i64 (y 3)) := cell_box (W := wr.drew) hb rfl
      have c9 : wr.drew.cell? ⟨w.heap.size, 9, none⟩ = some (.int .i64 (y 4)) := cell_box (W := wr.drew) hb rfl
      have c10 : wr.drew.cell? ⟨w.heap.size, 10, none⟩ = some (.int .i64 (f)) := cell_box (W := wr.drew) hb rfl
      have c11 : wr.drew.cell? ⟨w.heap.size, 11, none⟩ = some (.int .i64 (g)) := cell_box (W := wr.drew) hb rfl
      have c12 : wr.drew.cell? ⟨w.heap.size, 12, none⟩ = some (.int .u64 (m)) := cell_box (W := wr.drew) hb rfl
      have c13 : wr.drew.cell? ⟨w.heap.size, 13, none⟩ = some (.int .u64 (k)) := cell_box (W := wr.drew) hb rfl
      have c14 : wr.drew.cell? ⟨w.heap.size, 14, none⟩ = some (.int .i64 (d)) := cell_box (W := wr.drew) hb rfl
      have e0 : (wr.alloc (Obj.cells #[.int .i64 0, .int .i64 0, .int .i64 0, .int .i64 0, .int .i64 0, .int .i64 0, .int .i64 0, .int .i64 0, .int .i64 0, .int .i64 0, .int .i64 0, .int .i64 0, .int .u64 0, .int .u64 0, .int .i64 0] 68)).drew.cell? ⟨w.heap.size, 0, none⟩ = some (.int .i64 (x 0)) := cell_box (W := (wr.alloc (Obj.cells #[.int .i64 0, .int .i64 0, .int .i64 0, .int .i64 0, .int .i64 0, .int .i64 0, .int .i64 0, .int .i64 0, .int .i64 0, .int .i64 0, .int .i64 0, .int .i64 0, .int .u64 0, .int .u64 0, .int .i64 0] 68)).drew) nb0 rfl
      have e1 : (wr.alloc (Obj.cells #[.int .i64 0, .int .i64 0, .int .i64 0, .int .i64 0, .int .i64 0, .int .i64 0, .int .i64 0, .int .i64 0, .int .i64 0, .int .i64 0, .int .i64 0, .int .i64 0, .int .u64 0, .int .u64 0, .int .i64 0] 68)).drew.cell? ⟨w.heap.size, 1, none⟩ = some (.int .i64 (x 1)) := cell_box (W := (wr.alloc (Obj.cells #[.int .i64 0, .int .i64 0, .int .i64 0, .int .i64 0, .int .i64 0, .int .i64 0, .int .i64 0, .int .i64 0, .int .i64 0, .int .i64 0, .int .i64 0, .int .i64 0, .int .u64 0, .int .u64 0, .int .i64 0] 68)).drew) nb0 rfl
      have e2 : (wr.alloc (Obj.cells #[.int .i64 0, .int .i64 0, .int .i64 0, .int .i64 0, .int .i64 0, .int .i64 0, .int .i64 0, .int .i64 0, .int .i64 0, .int .i64 0, .int .i64 0, .int .i64 0, .int .u64 0, .int .u64 0, .int .i64 0] 68)).drew.cell? ⟨w.heap.size, 2, none⟩ = some (.int .i64 (x 2)) := cell_box (W := (wr.alloc (Obj.cells #[.int .i64 0, .int .i64 0, .int .i64 0, .int .i64 0, .int .i64 0, .int .i64 0, .int .i64 0, .int .i64 0, .int .i64 0, .int .i64 0, .int .i64 0, .int .i64 0, .int .u64 0, .int .u64 0, .int .i64 0] 68)).drew) nb0 rfl
      have e3 : (wr.alloc (Obj.cells #[.int .i64 0, .int .i64 0, .int .i64 0, .int .i64 0, .int .i64 0, .int .i64 0, .int .i64 0, .int .i64 0, .int .i64 0, .int .i64 0, .int .i64 0, .int .i64 0, .int .u64 0, .int .u64 0, .int .i64 0] 68)).drew.cell? ⟨w.heap.size, 3, none⟩ = some (.int .i64 (x 3)) := cell_box (W := (wr.alloc (Obj.cells #[.int .i64 0, .int .i64 0, .int .i64 0, .int .i64 0, .int .i64 0, .int .i64 0, .int .i64 0, .int .i64 0, .int .i64 0, .int .i64 0, .int .i64 0, .int .i64 0, .int .u64 0, .int .u64 0, .int .i64 0] 68)).drew) nb0 rfl
      have e4 : (wr.alloc (Obj.cells #[.int .i64 0, .int .i64 0, .int .i64 0, .int .i64 0, .int .i64 0, .int .i64 0, .int .i64 0, .int .i64 0, .int .i64 0, .int .i64 0, .int .i64 0, .int .i64 0, .int .u64 0, .int .u64 0, .int .i64 0] 68)).drew.cell? ⟨w.heap.size, 4, none⟩ = some (.int .i64 (x 4)) := cell_box (W := (wr.alloc (Obj.cells #[.int .i64 0, .int .i64 0, .int .i64 0, .int .i64 0, .int .i64 0, .int .i64 0, .int .i64 0, .int .i64 0, .int .i64 0, .int .i64 0, .int .i64 0, .int .i64 0, .int .u64 0, .int .u64 0, .int .i64 0] 68)).drew) nb0 rfl
      have e5 : (wr.alloc (Obj.cells #[.int .i64 0, .int .i64 0, .int .i64 0, .int .i64 0, .int .i64 0, .int .i64 0, .int .i64 0, .int .i64 0, .int .i64 0, .int .i64 0, .int .i64 0, .int .i64 0, .int .u64 0, .int .u64 0, .int .i64 0] 68)).drew.cell? ⟨w.heap.size, 5, none⟩ = some (.int .i64 (y 0)) := cell_box (W := (wr.alloc (Obj.cells #[.int .i64 0, .int .i64 0, .int .i64 0, .int .i64 0, .int .i64 0, .int .i64 0, .int .i64 0, .int .i64 0, .int .i64 0, .int .i64 0, .int .i64 0, .int .i64 0, .int .u64 0, .int .u64 0, .int .i64 0] 68)).drew) nb0 rfl
      have e6 : (wr.alloc (Obj.cells #[.int .i64 0, .int .i64 0, .int .i64 0, .int .i64 0, .int .i64 0, .int .i64 0, .int .i64 0, .int .i64 0, .int .i64 0, .int .i64 0, .int .i64 0, .int .i64 0, .int .u64 0, .int .u64 0, .int .i64 0] 68)).drew.cell? ⟨w.heap.size, 6, none⟩ = some (.int .i64 (y 1)) := cell_box (W := (wr.alloc (Obj.cells #[.int .i64 0, .int .i64 0, .int .i64 0, .int .i64 0, .int .i64 0, .int .i64 0, .int .i64 0, .int .i64 0, .int .i64 0, .int .i64 0, .int .i64 0, .int .i64 0, .int .u64 0, .int .u64 0, .int .i64 0] 68)).drew) nb0 rfl
      have e7 : (wr.alloc (Obj.cells #[.int .i64 0, .int .i64 0, .int .i64 0, .int .i64 0, .int .i64 0, .int .i64 0, .int .i64 0, .int .i64 0, .int .i64 0, .int .i64 0, .int .i64 0, .int .i64 0, .int .u64 0, .int .u64 0, .int .i64 0] 68)).drew.cell? ⟨w.heap.size, 7, none⟩ = some (.int .i64 (y 2)) := cell_box (W := (wr.alloc (Obj.cells #[.int .i64 0, .int .i64 0, .int .i64 0, .int .i64 0, .int .i64 0, .int .i64 0, .int .i64 0, .int .i64 0, .int .i64 0, .int .i64 0, .int .i64 0, .int .i64 0, .int .u64 0, .int .u64 0, .int .i64 0] 68)).drew) nb0 rfl
      have e8 : (wr.alloc (Obj.cells #[.int .i64 0, .int .i64 0, .int .i64 0, .int .i64 0, .int .i64 0, .int .i64 0, .int .i64 0, .int .i64 0, .int .i64 0, .int .i64 0, .int .i64 0, .int .i64 0, .int .u64 0, .int .u64 0, .int .i64 0] 68)).drew.cell? ⟨w.heap.size, 8, none⟩ = some (.int .i64 (y 3)) := cell_box (W := (wr.alloc (Obj.cells #[.int .i64 0, .int .i64 0, .int .i64 0, .int .i64 0, .int .i64 0, .int .i64 0, .int .i64 0, .int .i64 0, .int .i64 0, .int .i64 0, .int .i64 0, .int .i64 0, .int .u64 0, .int .u64 0, .int .i64 0] 68)).drew) nb0 rfl
      have e9 : (wr.alloc (Obj.cells #[.int .i64 0, .int .i64 0, .int .i64 0, .int .i64 0, .int .i64 0, .int .i64 0, .int .i64 0, .int .i64 0, .int .i64 0, .int .i64 0, .int .i64 0, .int .i64 0, .int .u64 0, .int .u64 0, .int .i64 0] 68)).drew.cell? ⟨w.heap.size, 9, none⟩ = some (.int .i64 (y 4)) := cell_box (W := (wr.alloc (Obj.cells #[.int .i64 0, .int .i64 0, .int .i64 0, .int .i64 0, .int .i64 0, .int .i64 0, .int .i64 0, .int .i64 0, .int .i64 0, .int .i64 0, .int .i64 0, .int .i64 0, .int .u64 0, .int .u64 0, .int .i64 0] 68)).drew) nb0 rfl
      have e10 : (wr.alloc (Obj.cells #[.int .i64 0, .int .i64 0, .int .i64 0, .int .i64 0, .int .i64 0, .int .i64 0, .int .i64 0, .int .i64 0, .int .i64 0, .int .i64 0, .int .i64 0, .int .i64 0, .int .u64 0, .int .u64 0, .int .i64 0] 68)).drew.cell? ⟨w.heap.size, 10, none⟩ = some (.int .i64 (f)) := cell_box (W := (wr.alloc (Obj.cells #[.int .i64 0, .int .i64 0, .int .i64 0, .int .i64 0, .int .i64 0, .int .i64 0, .int .i64 0, .int .i64 0, .int .i64 0, .int .i64 0, .int .i64 0, .int .i64 0, .int .u64 0, .int .u64 0, .int .i64 0] 68)).drew) nb0 rfl
      have e11 : (wr.alloc (Obj.cells #[.int .i64 0, .int .i64 0, .int .i64 0, .int .i64 0, .int .i64 0, .int .i64 0, .int .i64 0, .int .i64 0, .int .i64 0, .int .i64 0, .int .i64 0, .int .i64 0, .int .u64 0, .int .u64 0, .int .i64 0] 68)).drew.cell? ⟨w.heap.size, 11, none⟩ = some (.int .i64 (g)) := cell_box (W := (wr.alloc (Obj.cells #[.int .i64 0, .int .i64 0, .int .i64 0, .int .i64 0, .int .i64 0, .int .i64 0, .int .i64 0, .int .i64 0, .int .i64 0, .int .i64 0, .int .i64 0, .int .i64 0, .int .u64 0, .int .u64 0, .int .i64 0] 68)).drew) nb0 rfl
      have e12 : (wr.alloc (Obj.cells #[.int .i64 0, .int .i64 0, .int .i64 0, .int .i64 0, .int .i64 0, .int .i64 0, .int .i64 0, .int .i64 0, .int .i64 0, .int .i64 0, .int .i64 0, .int .i64 0, .int .u64 0, .int .u64 0, .int .i64 0] 68)).drew.cell? ⟨w.heap.size, 12, none⟩ = some (.int .u64 (m)) := cell_box (W := (wr.alloc (Obj.cells #[.int .i64 0, .int .i64 0, .int .i64 0, .int .i64 0, .int .i64 0, .int .i64 0, .int .i64 0, .int .i64 0, .int .i64 0, .int .i64 0, .int .i64 0, .int .i64 0, .int .u64 0, .int .u64 0, .int .i64 0] 68)).drew) nb0 rfl
      have e13 : (wr.alloc (Obj.cells #[.int .i64 0, .int .i64 0, .int .i64 0, .int .i64 0, .int .i64 0, .int .i64 0, .int .i64 0, .int .i64 0, .int .i64 0, .int .i64 0, .int .i64 0, .int .i64 0, .int .u64 0, .int .u64 0, .int .i64 0] 68)).drew.cell? ⟨w.heap.size, 13, none⟩ = some (.int .u64 (k)) := cell_box (W := (wr.alloc (Obj.cells #[.int .i64 0, .int .i64 0, .int .i64 0, .int .i64 0, .int .i64 0, .int .i64 0, .int .i64 0, .int .i64 0, .int .i64 0, .int .i64 0, .int .i64 0, .int .i64 0, .int .u64 0, .int .u64 0, .int .i64 0] 68)).drew) nb0 rfl
      have e14 : (wr.alloc (Obj.cells #[.int .i64 0, .int .i64 0, .int .i64 0, .int .i64 0, .int .i64 0, .int .i64 0, .int .i64 0, .int .i64 0, .int .i64 0, .int .i64 0, .int .i64 0, .int .i64 0, .int .u64 0, .int .u64 0, .int .i64 0] 68)).drew.cell? ⟨w.heap.size, 14, none⟩ = some (.int .i64 (d)) := cell_box (W := (wr.alloc (Obj.cells #[.int .i64 0, .int .i64 0, .int .i64 0, .int .i64 0, .int .i64 0, .int .i64 0, .int .i64 0, .int .i64 0, .int .i64 0, .int .i64 0, .int .i64 0, .int .i64 0, .int .u64 0, .int .u64 0, .int .i64 0] 68)).drew) nb0 rfl
      have HB := hid hb; have HSD := hid hs
      have HST := hid hst; have HFR := hid hfr; have HOW := hid hown
      clear nb0 hb hs hst hfr hown hc0 hbl
      go_wp2_with fail
      go_region
      clear c0 e0 c1 e1 c2 e2 c3 e3 c4 e4 c5 e5 c6 e6 c7 e7 c8 e8 c9 e9 c10 e10 c11 e11 c12 e12 c13 e13 c14 e14 l0 l1 l2 l3
      obtain ⟨W1, hW1⟩ : ∃ W, W = (wr.alloc (Obj.cells #[.int .i64 (x 0), .int .i64 (x 1), .int .i64 (x 2), .int .i64 (x 3), .int .i64 (x 4), .int .i64 (y 0), .int .i64 (y 1), .int .i64 (y 2), .int .i64 (y 3), .int .i64 (y 4), .int .i64 (f), .int .i64 (g), .int .u64 (m), .int .u64 (k), .int .i64 (d)] 68)).drew := ⟨_, rfl⟩
      rw [← hW1]
      have hw1 : W1.heap[wr.heap.size]? = some (.cells (attC ⟨x, y, f, g, m, k, d⟩).toArray 68 (0, 0)) := by rw [hW1]; exact World.alloc_heap_new wr _
      have bl1 : Below wr.heap.size wr W1 := by rw [hW1]; exact (alloc_below0 wr _).drew
      have sz1 : W1.heap.size = wr.heap.size + 1 := by rw [hW1]; exact World.size_alloc wr _
      have i5 : i < 5 := by omega
      have c1 : W1.drew.cell? ⟨wr.heap.size, 5 + i, none⟩ = some (.int .i64 (y i)) := cells_box15 (W := W1.drew) hw1 (getY ⟨x, y, f, g, m, k, d⟩ i i5)
      have f1 : W1.drew.frozen? ⟨wr.heap.size, 5 + i, none⟩ = false := free_box (W := W1.drew) hw1
      have hxi := hx i
      have e1 : IntKind.i64.wrap ((y i : Int) + 1) = (y i : Int) + 1 := IntWalk.i64_in _ (by constructor <;> omega)
      have hw2 : (W1.setCell ⟨wr.heap.size, 5 + i, none⟩ (.int .i64 ((y i : Int) + 1))).heap[wr.heap.size]? = some (.cells (attC ⟨x, (up y i), f, g, m, k, d⟩).toArray 68 (0, 0)) := by rw [block_set hw1, setY ⟨x, y, f, g, m, k, d⟩ i i5]
      have bl2 : Below wr.heap.size wr (W1.setCell ⟨wr.heap.size, 5 + i, none⟩ (.int .i64 ((y i : Int) + 1))).drew := (bl1.setCell (p := ⟨wr.heap.size, 5 + i, none⟩) (Nat.le_refl _) _).drew
      have sz2 : (W1.setCell ⟨wr.heap.size, 5 + i, none⟩ (.int .i64 ((y i : Int) + 1))).drew.heap.size = wr.heap.size + 1 := by rw [← sz1]; simp [World.setCell, World.drew]
      have HW2 := hid hw2; have HB2 := hid bl2; have HZ2 := hid sz2
      clear hW1 hw1 bl1 sz1 hw2 bl2 sz2
      go_wp2_with fail
      go_region
      clear c1 f1
      obtain ⟨W2, hW2⟩ : ∃ W, W = (W1.setCell ⟨wr.heap.size, 5 + i, none⟩ (.int .i64 ((y i : Int) + 1))).drew := ⟨_, rfl⟩
      rw [← hW2]
      have hw2 : W2.heap[wr.heap.size]? = some (.cells (attC ⟨x, (up y i), f, g, m, k, d⟩).toArray 68 (0, 0)) := by rw [hW2]; exact HW2.out
      have bl2 : Below wr.heap.size wr W2 := by rw [hW2]; exact HB2.out
      have sz2 : W2.heap.size = wr.heap.size + 1 := by rw [hW2]; exact HZ2.out
      clear hW2 HW2 HB2 HZ2
      have c1 : W2.cell? ⟨wr.heap.size, 11, none⟩ = some (.int .i64 g) := cell_box hw2 rfl
      have f1 : W2.frozen? ⟨wr.heap.size, 11, none⟩ = false := free_box hw2
      have hw3 : (W2.setCell ⟨wr.heap.size, 11, none⟩ (.int .i64 i)).heap[wr.heap.size]? = some (.cells (attC ⟨x, (up y i), f, i, m, k, d⟩).toArray 68 (0, 0)) := block_set hw2 _
      have bl3 : Below wr.heap.size wr (W2.setCell ⟨wr.heap.size, 11, none⟩ (.int .i64 i)) := bl2.setCell (p := ⟨wr.heap.size, 11, none⟩) (Nat.le_refl _) _
      have sz3 : (W2.setCell ⟨wr.heap.size, 11, none⟩ (.int .i64 i)).heap.size = wr.heap.size + 1 := by rw [← sz2]; simp [World.setCell]
      have HW3 := hid hw3; have HB3 := hid bl3; have HZ3 := hid sz3
      clear hw2 bl2 sz2 hw3 bl3 sz3
      go_upto_region 10 with fail
      clear c1 f1
      obtain ⟨W3, hW3⟩ : ∃ W, W = W2.setCell ⟨wr.heap.size, 11, none⟩ (.int .i64 i) := ⟨_, rfl⟩
      rw [← hW3] at HW3 HB3 HZ3 ⊢
      clear hW3
      have c1 : W3.cell? ⟨w.heap.size, 13, none⟩ = some (.int .u64 k) := cell_box (below_blk HB3.out HB.out) rfl
      have c2 : W3.cell? ⟨wr.heap.size, 13, none⟩ = some (.int .u64 k) := cell_box HW3.out rfl
      have f2 : W3.frozen? ⟨wr.heap.size, 13, none⟩ = false := free_box HW3.out
      have HC := hid (withOne_any k (p.b i) W3 hm (by omega))
      have hw4 : (W3.setCell ⟨wr.heap.size, 13, none⟩ (.int .u64 (one k (p.b i) : Nat))).heap[wr.heap.size]? = some (.cells (attC ⟨x, (up y i), f, i, m, (one k (p.b i)), d⟩).toArray 68 (0, 0)) := block_set HW3.out _
      have bl4 : Below wr.heap.size wr (W3.setCell ⟨wr.heap.size, 13, none⟩ (.int .u64 (one k (p.b i) : Nat))) := HB3.out.setCell (p := ⟨wr.heap.size, 13, none⟩) (Nat.le_refl _) _
      have sz4 : (W3.setCell ⟨wr.heap.size, 13, none⟩ (.int .u64 (one k (p.b i) : Nat))).heap.size = wr.heap.size + 1 := by rw [← HZ3.out]; simp [World.setCell]
      have HW4 := hid hw4; have HB4 := hid bl4; have HZ4 := hid sz4
      clear hw4 bl4 sz4
      go_wp2_with fail
      refine HC.out.mono ?_
      rintro e w1 ⟨rfl, rfl⟩
      go_upto_region 11 with fail
      clear c1 c2 f2
      generalize w1.setCell ⟨wr.heap.size, 13, none⟩ (.int .u64 (one k (p.b i) : Nat)) = W4 at HW4 HB4 HZ4 ⊢
      have c1 : W4.cell? ⟨wr.heap.size, 14, none⟩ = some (.int .i64 d) := cell_box HW4.out rfl
      have f1 : W4.frozen? ⟨wr.heap.size, 14, none⟩ = false := free_box HW4.out
      have e2 : IntKind.i64.wrap (d - (p.b i : Int)) = d - (p.b i : Int) := IntWalk.i64_in _ (by constructor <;> omega)
      have hw5 : (W4.setCell ⟨wr.heap.size, 14, none⟩ (.int .i64 (d - (p.b i : Int)))).heap[wr.heap.size]? = some (.cells (attC ⟨x, (up y i), f, i, m, (one k (p.b i)), (d - p.b i)⟩).toArray 68 (0, 0)) := block_set HW4.out _
      have bl5 : Below wr.heap.size wr (W4.setCell ⟨wr.heap.size, 14, none⟩ (.int .i64 (d - (p.b i : Int)))) := HB4.out.setCell (p := ⟨wr.heap.size, 14, none⟩) (Nat.le_refl _) _
      have sz5 : (W4.setCell ⟨wr.heap.size, 14, none⟩ (.int .i64 (d - (p.b i : Int)))).heap.size = wr.heap.size + 1 := by rw [← HZ4.out]; simp [World.setCell]
      have HW5 := hid hw5; have HB5 := hid bl5; have HZ5 := hid sz5
      clear hw5 bl5 sz5
      go_upto_region 12 with fail
      clear c1 f1
      rw [show (d + -(p.b i : Int)) = d - (p.b i : Int) by omega]
      generalize W4.setCell ⟨wr.heap.size, 14, none⟩ (.int .i64 (d - (p.b i : Int))) = W5 at HW5 HB5 HZ5 ⊢
      have c0 : W5.cell? ⟨wr.heap.size, 0, none⟩ = some (.int .i64 (x 0)) := cell_box (W := W5) HW5.out rfl
      have c1 : W5.cell? ⟨wr.heap.size, 1, none⟩ = some (.int .i64 (x 1)) := cell_box (W := W5) HW5.out rfl
      have c2 : W5.cell? ⟨wr.heap.size, 2, none⟩ = some (.int .i64 (x 2)) := cell_box (W := W5) HW5.out rfl
      have c3 : W5.cell? ⟨wr.heap.size, 3, none⟩ = some (.int .i64 (x 3)) := cell_box (W := W5) HW5.out rfl
      have c4 : W5.cell? ⟨wr.heap.size, 4, none⟩ = some (.int .i64 (x 4)) := cell_box (W := W5) HW5.out rfl
      have c5 : W5.cell? ⟨wr.heap.size, 5, none⟩ = some (.int .i64 (up y i 0)) := cell_box (W := W5) HW5.out rfl
      have c6 : W5.cell? ⟨wr.heap.size, 6, none⟩ = some (.int .i64 (up y i 1)) := cell_box (W := W5) HW5.out rfl
      have c7 : W5.cell? ⟨wr.heap.size, 7, none⟩ = some (.int .i64 (up y i 2)) := cell_box (W := W5) HW5.out rfl
      have c8 : W5.cell? ⟨wr.heap.size, 8, none⟩ = some (.int .i64 (up y i 3)) := cell_box (W := W5) HW5.out rfl
      have c9 : W5.cell? ⟨wr.heap.size, 9, none⟩ = some (.int .i64 (up y i 4)) := cell_box (W := W5) HW5.out rfl
      have c10 : W5.cell? ⟨wr.heap.size, 10, none⟩ = some (.int .i64 (f)) := cell_box (W := W5) HW5.out rfl
      have c11 : W5.cell? ⟨wr.heap.size, 11, none⟩ = some (.int .i64 (i)) := cell_box (W := W5) HW5.out rfl
      have c12 : W5.cell? ⟨wr.heap.size, 12, none⟩ = some (.int .u64 (m)) := cell_box (W := W5) HW5.out rfl
      have c13 : W5.cell? ⟨wr.heap.size, 13, none⟩ = some (.int .u64 (one k (p.b i))) := cell_box (W := W5) HW5.out rfl
      have c14 : W5.cell? ⟨wr.heap.size, 14, none⟩ = some (.int .i64 (d - p.b i)) := cell_box (W := W5) HW5.out rfl
      obtain ⟨C5, hC5⟩ : ∃ C, C = (Obj.cells #[.int .i64 (x 0), .int .i64 (x 1), .int .i64 (x 2), .int .i64 (x 3), .int .i64 (x 4), .int .i64 (up y i 0), .int .i64 (up y i 1), .int .i64 (up y i 2), .int .i64 (up y i 3), .int .i64 (up y i 4), .int .i64 (f), .int .i64 (i), .int .u64 (m), .int .u64 (one k (p.b i)), .int .i64 (d - p.b i)] 68) := ⟨_, rfl⟩
      have hS5 : Stk base (W5.alloc C5) u1 (st ++ (kids p ⟨x, y, f, g, m, k, d⟩).take n) := HST.out.below (fun q hq => by
        have h1 := (HST.out.lt hq).1
        exact ((alloc_below0 W5 C5).block q (by have := HZ5.out; omega)).trans (HB5.out.block q h1))
      obtain ⟨v', W6, hr, hS6, hF6, hO6⟩ := run_appT 69 base u1 (st ++ (kids p ⟨x, y, f, g, m, k, d⟩).take n) ⟨x, (up y i), f, i, m, (one k (p.b i)), (d - p.b i)⟩ (W5.alloc C5) hS5 W5.heap.size (by rw [hC5]; exact World.alloc_heap_new W5 _) (by
        have h1 := HKL.out
        rw [List.length_append, List.length_take]
        omega) (by rw [World.size_alloc, HZ5.out]; omega)
      rw [hC5] at hr
      have hfin : ∃ n', n' = n + 1 ∧ n' ≤ p.q - g ∧ Stk base W6 v' (st ++ (kids p ⟨x, y, f, g, m, k, d⟩).take n') ∧ W6.heap[w.heap.size]? = some (.cells (attC ⟨x, y, f, g, m, k, d⟩).toArray 68 (0, 0)) ∧ W6.heap[w.heap.size + 1]? = some (.cells #[.slice pa A.length ca, .slice (some ⟨ba, oa, none⟩) B.length cb] 48 (0, 0)) ∧ Fr (fun q => v.ownBlock = some q) w W6 ∧ w.heap.size + 2 ≤ W6.heap.size ∧ (v'.ownBlock = v.ownBlock ∨ ∃ q, v'.ownBlock = some q ∧ w.heap.size + 2 ≤ q) := by
        have hne : ∀ q, q = w.heap.size ∨ q = w.heap.size + 1 → ¬ u1.ownBlock = some q := fun q hq e => by
          rcases HOW.out with h | ⟨r, h, hr⟩
          · have := (HS.out.lt (h.symm.trans e)).1
            omega
          · rw [h] at e
            have := Option.some.inj e
            omega
        have hb5 : Below wr.heap.size wr (W5.alloc C5) := HB5.out.trans ((alloc_below0 W5 C5).mono (by have := HZ5.out; omega))
        have hz5 := hF6.low.size
        rw [World.size_alloc, HZ5.out] at hz5
        have old : ∀ q, q < wr.heap.size → ¬ u1.ownBlock = some q → W6.heap[q]? = wr.heap[q]? := fun q hq hn => (hF6.same q (by rw [World.size_alloc, HZ5.out]; omega) hn).trans (hb5.block q hq)
        refine ⟨n + 1, rfl, by have := HI2.out; omega, ?_, (old _ (by omega) (hne _ (.inl rfl))).trans HB.out, (old _ (by omega) (hne _ (.inr rfl))).trans HSD.out, ?_, by omega, ?_⟩
        · have h1 := HK.out (n + 1) (by have := HI2.out; omega)
          have h0 := HK.out n (by have := HI2.out; omega)
          rw [h1, List.range_succ, List.map_append, ← h0, ← List.append_assoc]
          rw [show (List.map (fun i => kidY p ⟨x, y, f, g, m, k, d⟩ (g + i)) [n]) = [(⟨x, (up y i), f, i, m, (one k (p.b i)), (d - p.b i)⟩ : Tr)] by rw [List.map_singleton, HI2.out]; rfl]
          exact hS6
        · refine ⟨HFR.out.low.trans ((hb5.mono (Nat.zero_le _)).trans hF6.low), fun q hq hA => ?_⟩
          by_cases hu : u1.ownBlock = some q
          · rcases HOW.out with h | ⟨r, h, hr⟩
            · exact absurd (h.symm.trans hu) hA
            · rw [h] at hu
              have := Option.some.inj hu
              omega
          · exact (old q (by omega) hu).trans (HFR.out.same q hq hA)
        · rcases hO6 with h | h
          · rcases HOW.out with h' | ⟨r, h', hr⟩
            · exact .inl (h.trans h')
            · exact .inr ⟨r, h.trans h', hr⟩
          · rw [World.size_alloc, HZ5.out] at h
            exact .inr ⟨_, h, by omega⟩
      have HR := hid hr; have HFIN := hid hfin
      clear hr hS6 hF6 hO6 hS5 hC5 hfin
      go_wp2_with (first
        | (at_builtin; refine Lib.wpList_append_run _ rfl _ _ _ _ rfl _ _ rfl rfl _ _ HR.out ?_; clear HR)
        | fail)
      have HM : Hid (p.q - (i + 1) < p.q - i) := hid (by omega)
      go_roundw
      case rel =>
        obtain ⟨n', h0, h1, h2⟩ := HFIN.out
        subst h0
        exact ⟨n + 1, h1, by have := HI2.out; rw [← this]; rfl, h2⟩
      case measure => simp [intOf]; omega
    · have hnn : n = p.q - g := by have := HI2.out; have := HL.out; omega
      have hk : (kids p ⟨x, y, f, g, m, k, d⟩).take n = kids p ⟨x, y, f, g, m, k, d⟩ := List.take_of_length_le (by rw [HKL.out]; omega)
      rw [hk] at hst
      have HF : Hid (∃ v', u1 = v' ∧ Stk base wr v' (st ++ kids p ⟨x, y, f, g, m, k, d⟩) ∧ Fr (fun q => v.ownBlock = some q) w wr ∧ (v'.ownBlock = v.ownBlock ∨ ∃ q, v'.ownBlock = some q ∧ w.heap.size ≤ q)) := hid ⟨u1, rfl, hst, hfr, by
        rcases hown with h | ⟨q, h, hq⟩
        · exact .inl h
        · exact .inr ⟨q, h, by omega⟩⟩
      clear hst hb hs hfr hown hk hnn
      go_wp2_with fail
      go_ret
      obtain ⟨v', h1, h2⟩ := HF.out
      subst h1
      exact ⟨_, rfl, h2⟩
end Go.Proofs.Ytbdkogccjnmfoaa
