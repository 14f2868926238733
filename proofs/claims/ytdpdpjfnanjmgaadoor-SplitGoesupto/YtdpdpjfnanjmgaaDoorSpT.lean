/- told. -/
import Derived.Test.YtdpdpjfnanjmgaaDoorSpM
import Derived.Test.YtdpdpjfnanjmgaaDoorSpC
import Derived.Deep.RegionHeld3
import Derived.Laws.MakeOwn
namespace Go.Proofs.YtdpdpjfnanjmgaaDoor
open Go.RowKit Go.Shelf

/-- A way in memory of its own, so far: its first rows are made. -/
structure WayAt (w : World) (base g K T : Nat) (rows : List (List Nat)) : Prop where
  low : base ≤ g
  blk : ∃ cur, w.heap[g]? = some (.cells cur 23 (0, 0)) ∧ cur.size = T ∧ (∀ i, rows.length ≤ i → i < T → cur[i]? = some (.slice none 0 0)) ∧ ∀ i (h : i < rows.length), rows[i].length = K ∧ ∃ p c, cur[i]? = some (.slice p K c) ∧ CRow w base p c (up rows[i]) ∧ p.map (·.block) ≠ some g
theorem WayAt.below {w w' : World} {base g K T : Nat} {rows : List (List Nat)} (h : WayAt w base g K T rows) (hb : Below w.heap.size w w') : WayAt w' base g K T rows :=
  ⟨h.low, by
    obtain ⟨cur, h1, h2, h3, h4⟩ := h.blk
    refine ⟨cur, (hb.block _ (Array.getElem?_eq_some_iff.1 h1).1).trans h1, h2, h3, fun i hi => ?_⟩
    obtain ⟨g1, p, c, g2, g3, g4⟩ := h4 i hi
    exact ⟨g1, p, c, g2, g3.below hb, g4⟩⟩
theorem WayAt.cell {w : World} {base g K T : Nat} {rows : List (List Nat)} (h : WayAt w base g K T rows) {i : Nat} (hi : rows.length ≤ i) (hT : i < T) : w.cell? ⟨g, i, none⟩ = some (.slice none 0 0) ∧ w.frozen? ⟨g, i, none⟩ = false := by
  obtain ⟨cur, h1, h2, h3, h4⟩ := h.blk
  exact ⟨cell_box h1 (h3 i hi hT), by simp [World.frozen?, h1]⟩
/-- One row more. -/
theorem WayAt.put {w : World} {base g K T : Nat} {rows : List (List Nat)} (h : WayAt w base g K T rows) {r : List Nat} {p : Option Addr} {c : Nat} (hT : rows.length < T) (hr : r.length = K) (hC : CRow w base p c (up r)) (hne : p.map (·.block) ≠ some g) : WayAt (w.setCell ⟨g, rows.length, none⟩ (.slice p K c)) base g K T (rows ++ [r]) :=
  ⟨h.low, by
    obtain ⟨cur, h1, h2, h3, h4⟩ := h.blk
    refine ⟨cur.setIfInBounds rows.length (.slice p K c), block_set h1 _, by simp [h2], fun i hi hiT => ?_, fun i hi => ?_⟩
    · rw [List.length_append, List.length_singleton] at hi
      rw [Array.getElem?_setIfInBounds, if_neg (by omega)]
      exact h3 i (by omega) hiT
    · have keep : ∀ {p' : Option Addr} {c' : Nat} {ns : List Int}, CRow w base p' c' ns → p'.map (·.block) ≠ some g → CRow (w.setCell ⟨g, rows.length, none⟩ (.slice p K c)) base p' c' ns := fun {p' c' ns} hc hn => ⟨hc.1, by
        rcases hc.2 with h0 | ⟨g', cap, cur', k1, k2, k3, k4⟩
        · exact .inl h0
        · refine .inr ⟨g', cap, cur', k1, k2, ?_, k4⟩
          injection k1 with k1
          subst k1
          exact (set_far (fun e => hn (by rw [← e]; rfl)) _).trans k3⟩
      by_cases e : i < rows.length
      · obtain ⟨g1, p', c', g2, g3, g4⟩ := h4 i e
        simp only [List.getElem_append_left e]
        exact ⟨g1, p', c', by rw [Array.getElem?_setIfInBounds, if_neg (by omega)]; exact g2, keep g3 g4, g4⟩
      · rw [List.length_append, List.length_singleton] at hi
        have e' : i = rows.length := by omega
        subst e'
        simp only [List.getElem_append_right (Nat.le_refl _), Nat.sub_self, List.getElem_singleton]
        exact ⟨hr, p, c, by rw [Array.getElem?_setIfInBounds, if_pos rfl, if_pos (by omega)], keep hC hne, hne⟩⟩
theorem CRow.far {w : World} {base g : Nat} {p : Option Addr} {c : Nat} {ns : List Int} (h : CRow w base p c ns) (hg : g < base) : p.map (·.block) ≠ some g := by
  rcases h.2 with ⟨h1, _⟩ | ⟨g', cap, cur, h1, h2, _⟩
  · injection h1 with h1; subst h1; simp
  · injection h1 with h1; subst h1; intro e; have h5 : g' = g := Option.some.inj e; omega
theorem Tryd.info23 : (Tryd.prog.info? 23).map (fun i => (i.zero, i.size, i.bytes)) = some (some (.slice none 0 0), 1, 24) := by kernel_rfl
theorem part_ints {W : World} {B : Nat} {d : Dl} (h : W.heap[B]? = some (.cells (dC d).toArray 62 (0, 0))) {o n : Nat} (ho : o + n ≤ 25) : IntsAt W (some ⟨B, o, none⟩) (up ((List.range n).map fun i => d.v.getD (o + i) 0)) := by
  refine ⟨by rw [up_len]; simp; unfold maxLen; omega, fun i hi => ?_⟩
  have hi' : i < n := by rw [up_len] at hi; simpa using hi
  refine ⟨B, o, rfl, ?_⟩
  rw [up_at (by simpa using hi'), getD_range _ _ hi']
  exact cells_box32 h (dC_part d (by omega))
theorem rowsN_at {K : Nat} : ∀ (T : Nat) (v : List Nat), v.length = K * T → ∀ i, i < T → (rowsN K T v).getD i [] = (List.range K).map fun j => v.getD (i * K + j) 0
  | 0, _, _, _, h => absurd h (by omega)
  | T + 1, v, hv, i, hi => by
    rw [Nat.mul_succ] at hv
    cases i with
    | zero =>
      rw [rowsN, List.getD_cons_zero]
      refine ext_getD 0 (by simp; omega) fun j hj => ?_
      have hj' : j < K := by simp at hj; omega
      rw [getD_range _ _ hj', Nat.zero_mul, Nat.zero_add, List.getD_eq_getElem?_getD, List.getD_eq_getElem?_getD, List.getElem?_take_of_lt hj']
    | succ i =>
      rw [rowsN, List.getD_cons_succ, rowsN_at T (v.drop K) (by rw [List.length_drop]; omega) i (by omega)]
      refine List.map_congr_left fun j hj => ?_
      rw [List.getD_eq_getElem?_getD, List.getD_eq_getElem?_getD, List.getElem?_drop]
      congr 2
      rw [Nat.succ_mul]; omega
theorem slice_parts (b l h : Nat) (h0 : l < 25) (h1 : l ≤ h) (h2 : h ≤ 25) (W : World) : (Instr.sliceAt 59 (.pointer (some ⟨b, 0, none⟩)) (some (.int .i64 (l : Int))) (some (.int .i64 (h : Int))) none).run Tryd.prog W = .ok (.slice (some ⟨b, l, none⟩) (h - l) (25 - l)) W := by
  have e5 : Tryd.prog.arrayLen 59 = 25 := by kernel_rfl
  have e3 : Tryd.prog.elem 59 = 3 := by kernel_rfl
  have hh := run_sliceAt_array_lh (P := Tryd.prog) W 59 ⟨b, 0, none⟩ (by rw [e5, e3]; exact Tryd.underlying59) .i64 .i64 (l : Int) (h : Int) (by omega) (by omega) (by rw [e5]; omega)
  rw [hh, e3, e5]
  have hs : (sizeOf 3).run Tryd.prog W = .ok 1 W := Tryd.sizeOf3 W
  rw [hs]
  simp [slicedAt, Addr.add_lit, show ¬ 25 = l by omega]
set_option maxRecDepth 100000 in
set_option maxHeartbeats 4000000 in
theorem told_any (X K T ck : Nat) (pk : Option Addr) (f : Nat → Nat → Nat) (d : Dl) (w : World) (hK : K ≤ 5) (hT : T ≤ 5) (hX : DlAt w X K pk T ck f) (hd : d.v.length = K * T) :
    Calls Tryd.prog 31 #[.pointer (some ⟨X, 0, none⟩), dV d] w fun e w' => ∃ g, e = .returned (.slice (some ⟨g, 0, none⟩) T T) ∧ WayAt w' w.heap.size g K T (rowsN K T d.v) ∧ Below w.heap.size w w' := by
  obtain ⟨W0, hW0⟩ : ∃ W0, w.alloc (.cells (dC d).toArray 62) = W0 := ⟨_, rfl⟩
  have hb0 : Below w.heap.size w W0 := by rw [← hW0]; exact alloc_below0 _ _
  have X0 : W0.heap[w.heap.size]? = some (.cells (dC d).toArray 62 (0, 0)) := by rw [← hW0]; exact World.alloc_heap_new w _
  have hsz : W0.heap.size = w.heap.size + 1 := by rw [← hW0, World.size_alloc]
  have D0 := hX.below hb0
  have hx1 := D0.often
  have HDW := hid hX
  have HX := hid X0; have HD := hid D0; have HB := hid hb0; have HSZ := hid hsz; have HDV := hid hd
  obtain ⟨i3, hi3, hy0, hy1, hy2⟩ := info_parts Tryd.info23
  clear hX X0 D0 hb0 hd hsz
  go_enter Tryd.func31, Tryd.ntmps31
  go_wp2_with (first | (at_make; refine wpList_make_full _ rfl _ _ 36 rfl W0.heap.size 23 i3 (.slice none 0 0) 1 Tryd.underlying36 hi3 hy0 hy1 .i64 .i64 _ _ T rfl rfl rfl rfl (by rw [hy2]; omega) (by unfold maxLen; omega) (Nat.le_refl _) ?_; intro w1 hown hgr; have HOWN := hid hown; have HGR := hid hgr; clear hown hgr) | fail)
  have hb1 : Below w.heap.size w w1 := HB.out.trans ((fr_grown HGR.out).below (fun q hq => by cases hq) (by have := HSZ.out; omega))
  have HB1 := hid hb1
  have HW : Hid (WayAt w1 w.heap.size W0.heap.size K T []) := hid (by
    rcases HOWN.out.2 with ⟨h, _⟩ | ⟨g, cap, cur, h1, h2, h3, h4, h5, h6, h7⟩
    · cases h
    · cases h1
      refine ⟨by have := HSZ.out; omega, cur, h3, by simpa using h6, fun i _ hi => ?_, fun i h => absurd h (by simp)⟩
      have e1 : (cur.toList.take (T * 1))[i]? = (List.replicate T (Value.slice none 0 0))[i]? := by rw [h7, Nat.mul_one]; exact congrArg (fun l => l[i]?) (toList_madeCells_one _ _)
      rw [List.getElem?_take_of_lt (by omega), List.getElem?_replicate, if_pos hi] at e1
      simpa using e1)
  have HXX : Hid (w1.heap[w.heap.size]? = some (.cells (dC d).toArray 62 (0, 0))) := hid (((fr_grown HGR.out).same _ (by have := HSZ.out; omega) (by simp)).trans HX.out)
  clear hb1 HOWN HGR hW0 hi3 hy0 hy1 hy2
  go_loopw [6, 15] (fun _ iv wr => ∃ i : Nat, i ≤ T ∧ iv = .int .i64 (i : Int) ∧ WayAt wr w.heap.size W0.heap.size K T ((rowsN K T d.v).take i) ∧ Below w.heap.size w wr ∧ wr.heap[w.heap.size]? = some (.cells (dC d).toArray 62 (0, 0)) ∧ W0.heap.size < wr.heap.size) (fun _ iv _ => T - (intOf iv).toNat)
  case atStart => exact ⟨0, Nat.zero_le _, rfl, HW.out, HB1.out, HXX.out, by obtain ⟨_, h1, _⟩ := HW.out.blk; exact (Array.getElem?_eq_some_iff.1 h1).1⟩
  case round =>
    obtain ⟨i, hi, rfl, hway, hbr, hbx, hsr⟩ := hrel
    by_cases hlt : i < T
    · have hDr : DlAt wr X K pk T ck f := HDW.out.below hbr
      have hk0 := hDr.kinds
      have hp25 : i * K + K ≤ 25 := by
        have : (i + 1) * K ≤ 5 * 5 := Nat.mul_le_mul (by omega) hK
        rw [Nat.succ_mul] at this; omega
      obtain ⟨A, hA⟩ : ∃ A, i * K = A := ⟨_, rfl⟩
      have hA1 : (i : Int) * (K : Int) = (A : Int) := by rw [← hA]; simp
      have hA2 : ((i : Int) + 1) * (K : Int) = ((A + K : Nat) : Int) := by rw [← hA, Int.add_mul]; simp
      have hA24 : A < 25 := by
        have h8 : i * K ≤ 4 * 5 := Nat.mul_le_mul (by omega) hK
        omega
      obtain ⟨E, hE⟩ : ∃ E, A + K = E := ⟨_, rfl⟩
      rw [hE] at hA2
      have hAE : (A : Int) ≤ (E : Int) := by omega
      have hE25 : (E : Int) ≤ 25 := by omega
      have w1' : IntKind.i64.wrap (A : Int) = (A : Int) := IntWalk.i64_in _ (by constructor <;> omega)
      have w2' : IntKind.i64.wrap ((i : Int) + 1) = (i : Int) + 1 := IntWalk.i64_in _ (by constructor <;> omega)
      have w3' : IntKind.i64.wrap (E : Int) = (E : Int) := IntWalk.i64_in _ (by constructor <;> omega)
      have sE : ∀ W : World, (Instr.sliceAt 59 (.pointer (some ⟨w.heap.size, 0, none⟩)) (some (.int .i64 (A : Int))) (some (.int .i64 (E : Int))) none).run Tryd.prog W = .ok (.slice (some ⟨w.heap.size, A, none⟩) (E - A) (25 - A)) W := slice_parts _ _ _ (by omega) (by omega) (by omega)
      have HCL : Hid (∀ W, Below wr.heap.size wr W → Calls Tryd.prog 26 #[.slice (some ⟨w.heap.size, A, none⟩) (E - A) (25 - A)] W fun e w' => ∃ q c, e = .returned (.slice q K c) ∧ CRow w' W.heap.size q c (up ((List.range K).map fun j => d.v.getD (A + j) 0)) ∧ Below W.heap.size W w') := hid fun W hW => by
        have hI := part_ints (o := A) (n := K) ((hW.block _ (World.block_lt_of_cell? wr ⟨w.heap.size, 0, none⟩ (cells_box32 hbx (dC_part d (by omega))))).trans hbx) (by omega)
        have h := clone_any (some ⟨w.heap.size, A, none⟩) (25 - A) _ W hI (by rw [up_len]; simp; omega)
        rw [up_len, List.length_map, List.length_range] at h
        rw [show E - A = K by omega]
        exact h
      have HK0 := hid hk0
      have HXN : Hid (¬ X = W0.heap.size) := hid (by have := HD.out.lt; have := HSZ.out; omega)
      have HWAY := hid hway; have HBR := hid hbr; have HBX := hid hbx; have HSR := hid hsr; have HDR := hid hDr
      clear hway hbr hbx hsr hDr
      go_wp2_with fail
      go_region_held3 (fun w' => w'.cell? ⟨X, 0, none⟩ = some (.int .i64 (K : Int))) ((first | assumption | ((with_reducible refine below_cell HB4.out _ _ ?_); assumption) | exact (fr_set _ _ _ _).cell (below_cell HB4.out _ _ HK0.out) HXN.out | go_keep | fail)) ((first | (go_at_call 26; refine (HCL.out (World.drew wr) (Below.refl _ wr).drew).mono ?_; rintro e w4 ⟨q, c4, rfl, hcr, hb4⟩; have HCR : Hid (CRow w4 wr.heap.size q c4 (up ((List.range K).map fun j => d.v.getD (A + j) 0))) := hcr; have HB4 : Hid (Below wr.heap.size wr w4) := ((Below.refl _ wr).drew).trans hb4; have HW4 := hid (HWAY.out.below HB4.out); have s0 := (HW4.out.cell (i := i) (by rw [List.length_take]; omega) hlt).1; have s1 := (HW4.out.cell (i := i) (by rw [List.length_take]; omega) hlt).2; clear hcr hb4) | fail))
      all_goals (go_wp2_with fail)
      refine ⟨⟨i + 1, by omega, by go_num, ?_, HBR.out.trans ((HB4.out.mono HBR.out.size).trans ((Below.refl _ _).setCell (p := ⟨W0.heap.size, i, none⟩) (by have := HSZ.out; show w.heap.size ≤ W0.heap.size; omega) _)), ?_, ?_⟩, by simp [intOf]; omega⟩
      · have hl : ((rowsN K T d.v).take i).length = i := by rw [List.length_take, rowsN_len]; omega
        have hr : (rowsN K T d.v).take (i + 1) = (rowsN K T d.v).take i ++ [(List.range K).map fun j => d.v.getD (A + j) 0] := by
          rw [List.take_succ_eq_append_getElem (by rw [rowsN_len]; omega)]
          congr 2
          have h9 := rowsN_at T d.v HDV.out i hlt
          rw [List.getD_eq_getElem?_getD, List.getElem?_eq_getElem (by rw [rowsN_len]; omega), hA] at h9
          exact h9
        have h10 := HW4.out.put (r := (List.range K).map fun j => d.v.getD (A + j) 0) (by rw [hl]; exact hlt) (by simp) (HCR.out.mono HBR.out.size) (HCR.out.far HSR.out)
        rw [hl] at h10
        rw [hr]
        exact h10
      · exact ((fr_set _ _ _ _).same _ (by have := HSR.out; have := HB4.out.size; have := HSZ.out; omega) (by have := HSZ.out; omega)).trans ((HB4.out.block _ (by have := HSR.out; have := HSZ.out; omega)).trans HBX.out)
      · have h1 := HSR.out
        have h2 := HB4.out.size
        have h3 : (w4.setCell ⟨W0.heap.size, i, none⟩ (.slice q K c4)).heap.size = w4.heap.size := by simp [World.setCell]
        omega
    · have e : i = T := by omega
      subst e
      have HWAY := hid hway; have HBR := hid hbr
      clear hway hbr hbx hsr
      go_wp2_with fail
      go_ret
      have h9 := HWAY.out
      rw [List.take_of_length_le (by rw [rowsN_len]; exact Nat.le_refl _)] at h9
      exact ⟨_, rfl, h9, HBR.out⟩
end Go.Proofs.YtdpdpjfnanjmgaaDoor
