/- search: the minimal solutions, each once. -/
import Derived.Test.YtbdkogccjnmfoaaLiJ
namespace Go.Proofs.Ytbdkogccjnmfoaa
open Go.RowKit Go.Shelf

theorem st_cell {base g cap : Nat} {w : World} {st : List Tr} {t : Tr} (h : Stk base w (.slice (some ⟨g, 0, none⟩) (st ++ [t]).length cap) (st ++ [t])) (j : Nat) (v : Value) (hv : (attC t)[j]? = some v) : w.cell? ⟨g, st.length * 15 + j, none⟩ = some v := by
  rcases h.2 with ⟨h0, _⟩ | ⟨g', cap', cur, h1, h2, h3, h4, h5, h6, h7⟩
  · cases h0
  · injection h1 with h1 _ _
    injection h1 with h1
    injection h1 with h1 _ _
    subst h1
    rw [cell_of_row w g _ _ 68 (0, 0) h3]
    have hj : j < 15 := by have := (List.getElem?_eq_some_iff.1 hv).1; simpa using this
    have e1 : (cur.toList.take ((st ++ [t]).length * 15))[st.length * 15 + j]? = (stC (st ++ [t]))[st.length * 15 + j]? := by rw [h7]
    rw [List.getElem?_take_of_lt (by simp; omega), stC_app, List.getElem?_append_right (by rw [stC_len]; omega), stC_len, Nat.add_sub_cancel_left, hv] at e1
    simpa using e1
theorem st_pop {base g cap : Nat} {w : World} {st : List Tr} {t : Tr} (h : Stk base w (.slice (some ⟨g, 0, none⟩) (st ++ [t]).length cap) (st ++ [t])) : Stk base w (.slice (some ⟨g, 0, none⟩) st.length cap) st := by
  refine ⟨stC_len st, ?_⟩
  rcases h.2 with ⟨h0, _⟩ | ⟨g', cap', cur, h1, h2, h3, h4, h5, h6, h7⟩
  · cases h0
  · injection h1 with h1 _ hc
    injection h1 with h1
    injection h1 with h1 _ _
    subst h1 hc
    refine .inr ⟨g, cap, cur, rfl, h2, h3, by simp at h4; omega, h5, h6, ?_⟩
    have e1 : (cur.toList.take ((st ++ [t]).length * 15)).take (st.length * 15) = (stC (st ++ [t])).take (st.length * 15) := by rw [h7]
    rw [List.take_take, Nat.min_eq_left (by simp; omega), stC_app, List.take_left' (by rw [stC_len])] at e1
    exact e1
theorem st_form {base : Nat} {w : World} {v : Value} {st : List Tr} {t : Tr} (h : Stk base w v (st ++ [t])) : ∃ g cap, v = .slice (some ⟨g, 0, none⟩) (st.length + 1) cap ∧ st.length + 1 ≤ cap ∧ cap ≤ maxLen := by
  rcases h.2 with ⟨_, h0⟩ | ⟨g', cap', cur, h1, h2, h3, h4, h5, h6, h7⟩
  · simp at h0
  · exact ⟨g', cap', by rw [h1]; simp, by simp at h4; exact h4, h5⟩
theorem st_none {base : Nat} {w : World} {v : Value} (h : Stk base w v []) : ∃ p cap, v = .slice p 0 cap := by
  rcases h.2 with ⟨h0, _⟩ | ⟨g', cap', cur, h1, h2, h3, h4, h5, h6, h7⟩
  · exact ⟨_, _, h0⟩
  · exact ⟨_, _, h1⟩
theorem VRow.mono {w : World} {base base' : Nat} {v : Value} {vs : List Vc} (h : VRow w base v vs) (hb : base' ≤ base) : VRow w base' v vs :=
  ⟨⟨h.row.1, by
    rcases h.row.2 with h0 | ⟨g, cap, cur, h1, h2, h3⟩
    · exact .inl h0
    · exact .inr ⟨g, cap, cur, h1, Nat.le_trans hb h2, h3⟩⟩, fun x hx => ⟨Nat.le_trans hb (h.vec x hx).1, (h.vec x hx).2⟩, h.once⟩
/-- What is so in each turn of the search. -/
def SRel (p : Pb) (A B : Nat) (w : World) (va vb : Value) (M : Nat) (vf vs : Value) (wr : World) : Prop :=
  ∃ (fs : List Vc) (st : List Tr), M = (st.map (siz p 13)).sum ∧ M ≤ 6 ^ 13 ∧ VRow wr (w.heap.size + 1) vf fs ∧ Stk (w.heap.size + 1) wr vs st ∧ fs.map Vc.l ++ st.reverse.flatMap (res p 13) = res p 13 root ∧ (∀ t ∈ st, Val p A B t ∧ Deep p 13 t) ∧
    wr.heap[w.heap.size]? = some (.cells #[va, vb] 48 (0, 0)) ∧ Below w.heap.size w wr
theorem SRel.least {p : Pb} {A B : Nat} {w : World} {va vb vf vs : Value} {wr : World} (h : ∃ M, SRel p A B w va vb M vf vs wr) : ∃ k, SRel p A B w va vb k vf vs wr ∧ ∀ m, SRel p A B w va vb m vf vs wr → k ≤ m := least_ex h
theorem SRel.lt {p : Pb} {A B : Nat} {w : World} {va vb vf vs : Value} {wr : World} {M M' : Nat} (h' : SRel p A B w va vb M' vf vs wr) (hlt : M' < M) [i : Decidable (∃ M, SRel p A B w va vb M vf vs wr)] : (if h : ∃ M, SRel p A B w va vb M vf vs wr then Classical.choose (SRel.least h) else 0) < M := by
  have hx : ∃ M, SRel p A B w va vb M vf vs wr := ⟨M', h'⟩
  rw [dif_pos hx]
  exact Nat.lt_of_le_of_lt ((Classical.choose_spec (SRel.least hx)).2 M' h') hlt
theorem res_leaf {p : Pb} {D : Nat} {t : Tr} (hc : ¬ com t = 1) : res p (D + 1) t = if t.d = 0 ∧ cnt (com t) = 2 then [told p t] else [] := by rw [res, if_neg hc]
theorem vc_of {w : World} {base : Nat} {q : Option Addr} {c : Nat} {l : List Nat} (h : CRow w base q c (toI l)) (hl : 0 < l.length) : ∃ b, q = some ⟨b, 0, none⟩ ∧ base ≤ b ∧ VcAt w ⟨b, c, l⟩ := by
  rcases h.2 with ⟨_, h0⟩ | ⟨g, cap, cur, h1, h2, h3, h4, h5, h6, h7⟩
  · rw [toI_len] at h0; omega
  · injection h1 with h1 _ hc
    subst h1 hc
    refine ⟨g, rfl, h2, ?_⟩
    unfold VcAt
    rw [toI_len] at h4 h7
    exact ⟨by rw [cAll_len, toI_len, Nat.mul_one], .inr ⟨g, c, cur, rfl, Nat.zero_le _, h3, h4, h5, h6, h7⟩⟩
theorem le_tot (x : Nat → Nat) : ∀ n i, i < n → x i ≤ tot x n := by
  intro n
  induction n with
  | zero => intro i hi; omega
  | succ n ih =>
    intro i hi
    have h1 : tot x (n + 1) = tot x n + 1 * x n := rfl
    by_cases h : i = n
    · subst h; omega
    · have := ih i (by omega); omega
theorem Val.cntX {p : Pb} {A B : Nat} {t : Tr} (v : Val p A B t) (hB : B ≤ 6) (i : Nat) : t.x i ≤ 100 := by
  by_cases h : i < p.n
  · have := le_tot t.x p.n i h; have := v.totX; omega
  · rw [v.sx i (by omega)]; omega
theorem Val.cntY {p : Pb} {A B : Nat} {t : Tr} (v : Val p A B t) (hA : A ≤ 6) (i : Nat) : t.y i ≤ 100 := by
  by_cases h : i < p.q
  · have := le_tot t.y p.q i h; have := v.totY; omega
  · rw [v.sy i (by omega)]; omega
set_option maxRecDepth 100000 in
set_option maxHeartbeats 8000000 in
theorem search_any (p : Pb) (A B : Nat) (ok : p.Ok A B) (hA6 : A ≤ 6) (hB6 : B ≤ 6) (pa pb : Option Addr) (ca cb : Nat) (xa xb : List Int) (w : World) (hA : IntsIn (fun b => b < w.heap.size) w pa xa) (hB : IntsIn (fun b => b < w.heap.size) w pb xb) (hla : xa.length = p.n) (hlb : xb.length = p.q)
    (ha : ∀ i (h : i < xa.length), xa[i] = (p.a i : Int)) (hb : ∀ i (h : i < xb.length), xb[i] = (p.b i : Int)) (h5 : p.n ≤ 5) (h6 : p.q ≤ 5) :
    Calls Try.prog 37 #[.agg #[.slice pa xa.length ca, .slice pb xb.length cb]] w fun e w' => ∃ v vs, e = .returned v ∧ VRow w' w.heap.size v vs ∧ vs.map Vc.l = res p 13 root ∧ Below w.heap.size w w' := by
  classical
  have v0 := val_root ok
  have d0 : Deep p 13 root := v0.deep ok (by omega)
  obtain ⟨W0, hW0⟩ : ∃ W, W = (w.alloc (.cells #[.slice pa xa.length ca, .slice pb xb.length cb] 48)).alloc (Obj.cells #[.int .i64 0, .int .i64 0, .int .i64 0, .int .i64 0, .int .i64 0, .int .i64 0, .int .i64 0, .int .i64 0, .int .i64 0, .int .i64 0, .int .i64 0, .int .i64 0, .int .u64 1, .int .u64 1, .int .i64 0] 68) := ⟨_, rfl⟩
  have b1 := alloc_below0 w (.cells #[.slice pa xa.length ca, .slice pb xb.length cb] 48)
  have b2 := alloc_below0 (w.alloc (.cells #[.slice pa xa.length ca, .slice pb xb.length cb] 48)) (Obj.cells #[.int .i64 0, .int .i64 0, .int .i64 0, .int .i64 0, .int .i64 0, .int .i64 0, .int .i64 0, .int .i64 0, .int .i64 0, .int .i64 0, .int .i64 0, .int .i64 0, .int .u64 1, .int .u64 1, .int .i64 0] 68)
  rw [World.size_alloc] at b2
  have HI : Hid (SRel p A B w (.slice pa xa.length ca) (.slice pb xb.length cb) ([root].map (siz p 13)).sum (.slice none 0 0) (.slice (some ⟨w.heap.size + 1, 0, none⟩) 1 1) W0) := hid (by
    refine ⟨[], [root], rfl, by rw [List.map_singleton]; simpa using siz_pow h5 h6 13 root, VRow.nil _ _, ⟨rfl, .inr ⟨w.heap.size + 1, 1, (attC root).toArray, rfl, Nat.le_refl _, ?_, Nat.le_refl _, by unfold maxLen; omega, rfl, rfl⟩⟩, by simp, ?_, ?_, ?_⟩
    · have := World.alloc_heap_new (w.alloc (.cells #[.slice pa xa.length ca, .slice pb xb.length cb] 48)) (Obj.cells #[.int .i64 0, .int .i64 0, .int .i64 0, .int .i64 0, .int .i64 0, .int .i64 0, .int .i64 0, .int .i64 0, .int .i64 0, .int .i64 0, .int .i64 0, .int .i64 0, .int .u64 1, .int .u64 1, .int .i64 0] 68)
      rw [World.size_alloc] at this
      rw [hW0]
      exact this
    · intro t ht
      rw [List.mem_singleton.1 ht]
      exact ⟨v0, d0⟩
    · rw [hW0]
      exact (b2.block _ (by omega)).trans (World.alloc_heap_new w _)
    · rw [hW0]
      exact b1.trans (b2.mono (by omega)))
  have HW0 := hid hW0
  have HA := hid hA; have HB := hid hB; have Hla := hid hla; have Hlb := hid hlb; have Ha := hid ha; have Hb := hid hb
  have hmax : maxLen = 9223372036854775807 := rfl
  clear hW0 b1 b2 v0 d0 hA hB hla hlb ha hb
  go_enter Try.func37, Try.ntmps37
  go_wp2_with fail
  rw [← HW0.out]
  go_loopw [3, 4] (fun vf vs wr => ∃ M, SRel p A B w (.slice pa xa.length ca) (.slice pb xb.length cb) M vf vs wr) (fun vf vs wr => if h : ∃ M, SRel p A B w (.slice pa xa.length ca) (.slice pb xb.length cb) M vf vs wr then Classical.choose (SRel.least h) else 0)
  case atStart => exact ⟨_, HI.out⟩
  case round =>
    have hM := Classical.choose_spec (SRel.least hrel)
    obtain ⟨M, hMe⟩ : ∃ M, Classical.choose (SRel.least hrel) = M := ⟨_, rfl⟩
    have HD : Hid ((if h : ∃ M, SRel p A B w (.slice pa xa.length ca) (.slice pb xb.length cb) M u3 u4 wr then Classical.choose (SRel.least h) else 0) = M) := hid (by rw [dif_pos hrel]; exact hMe)
    rw [hMe] at hM
    obtain ⟨fs, st, hm1, hm2, hvr, hst, hres, hall, hsd, hbl⟩ := hM.1
    clear hM hMe hrel
    rcases List.eq_nil_or_concat st with rfl | ⟨st', t, rfl⟩
    · obtain ⟨p0, cap, rfl⟩ := st_none hst
      have HF : Hid (VRow wr w.heap.size u3 fs ∧ fs.map Vc.l = res p 13 root ∧ Below w.heap.size w wr) := hid ⟨hvr.mono (by omega), by simpa using hres, hbl⟩
      clear hvr hst hres hall hsd hbl hm1 hm2 HD
      go_wp2_with fail
      go_ret
      exact ⟨_, fs, rfl, HF.out⟩
    · rw [List.concat_eq_append] at *
      obtain ⟨g0, cap, hv0, hc1, hc2⟩ := st_form hst
      obtain ⟨last, hlast⟩ : ∃ l, st'.length = l := ⟨_, rfl⟩
      rw [hlast] at hv0
      subst hv0
      obtain ⟨vt, dt⟩ := hall t (by simp)
      have hlen : st'.length ≤ M := by
        have := len_siz (p := p) (st' ++ [t]) (fun t ht => (hall t ht).2)
        rw [← hm1] at this
        simp at this
        omega
      obtain ⟨x, y, f, g, m, k, d⟩ := t
      have hst1 : Stk (w.heap.size + 1) wr (.slice (some ⟨g0, 0, none⟩) (st' ++ [(⟨x, y, f, g, m, k, d⟩ : Tr)]).length cap) (st' ++ [(⟨x, y, f, g, m, k, d⟩ : Tr)]) := by rw [List.length_append, hlast]; exact hst
      have hcell := st_cell hst1
      have hpop := st_pop hst1
      rw [hlast] at hcell hpop hlen hc1
      have hm13 : M ≤ 13060694016 := hm2
      have e0 : IntKind.i64.wrap (((last + 1 : Nat) : Int) - 1) = (last : Int) := by rw [IntWalk.i64_in _ (by constructor <;> omega)]; omega
      have c0 : wr.cell? ⟨g0, last * 15, none⟩ = some (.int .i64 (x 0)) := hcell 0 _ rfl
      have c1 : wr.cell? ⟨g0, last * 15 + 1, none⟩ = some (.int .i64 (x 1)) := hcell 1 _ rfl
      have c2 : wr.cell? ⟨g0, last * 15 + 2, none⟩ = some (.int .i64 (x 2)) := hcell 2 _ rfl
      have c3 : wr.cell? ⟨g0, last * 15 + 3, none⟩ = some (.int .i64 (x 3)) := hcell 3 _ rfl
      have c4 : wr.cell? ⟨g0, last * 15 + 4, none⟩ = some (.int .i64 (x 4)) := hcell 4 _ rfl
      have c5 : wr.cell? ⟨g0, last * 15 + 5, none⟩ = some (.int .i64 (y 0)) := hcell 5 _ rfl
      have c6 : wr.cell? ⟨g0, last * 15 + 6, none⟩ = some (.int .i64 (y 1)) := hcell 6 _ rfl
      have c7 : wr.cell? ⟨g0, last * 15 + 7, none⟩ = some (.int .i64 (y 2)) := hcell 7 _ rfl
      have c8 : wr.cell? ⟨g0, last * 15 + 8, none⟩ = some (.int .i64 (y 3)) := hcell 8 _ rfl
      have c9 : wr.cell? ⟨g0, last * 15 + 9, none⟩ = some (.int .i64 (y 4)) := hcell 9 _ rfl
      have c10 : wr.cell? ⟨g0, last * 15 + 10, none⟩ = some (.int .i64 (f)) := hcell 10 _ rfl
      have c11 : wr.cell? ⟨g0, last * 15 + 11, none⟩ = some (.int .i64 (g)) := hcell 11 _ rfl
      have c12 : wr.cell? ⟨g0, last * 15 + 12, none⟩ = some (.int .u64 (m)) := hcell 12 _ rfl
      have c13 : wr.cell? ⟨g0, last * 15 + 13, none⟩ = some (.int .u64 (k)) := hcell 13 _ rfl
      have c14 : wr.cell? ⟨g0, last * 15 + 14, none⟩ = some (.int .i64 (d)) := hcell 14 _ rfl
      have hmk := com_lt vt ok hA6 hB6
      have hand : bits .and .u64 (m : Int) (k : Int) = ((com ⟨x, y, f, g, m, k, d⟩ : Nat) : Int) := bits_and m k (by have := hmk.1; simp only [Nat.reducePow] at this; omega) (by have := hmk.2.1; simp only [Nat.reducePow] at this; omega)
      have HMK := hid hmk; have HV := hid vt; have HDT := hid dt; have HST := hid hst1; have HPOP := hid hpop; have HVR := hid hvr; have HRES := hid hres; have HALL := hid hall; have HSD := hid hsd; have HBL := hid hbl; have HM1 := hid hm1; have HLA := hid hlast
      obtain ⟨W1, hW1⟩ : ∃ W, W = wr.alloc (Obj.cells #[.int .i64 (x 0), .int .i64 (x 1), .int .i64 (x 2), .int .i64 (x 3), .int .i64 (x 4), .int .i64 (y 0), .int .i64 (y 1), .int .i64 (y 2), .int .i64 (y 3), .int .i64 (y 4), .int .i64 (f), .int .i64 (g), .int .u64 (m), .int .u64 (k), .int .i64 (d)] 68) := ⟨_, rfl⟩
      have bl1 := hid (alloc_below0 wr (Obj.cells #[.int .i64 (x 0), .int .i64 (x 1), .int .i64 (x 2), .int .i64 (x 3), .int .i64 (x 4), .int .i64 (y 0), .int .i64 (y 1), .int .i64 (y 2), .int .i64 (y 3), .int .i64 (y 4), .int .i64 (f), .int .i64 (g), .int .u64 (m), .int .u64 (k), .int .i64 (d)] 68))
      have hw1 := World.alloc_heap_new wr (Obj.cells #[.int .i64 (x 0), .int .i64 (x 1), .int .i64 (x 2), .int .i64 (x 3), .int .i64 (x 4), .int .i64 (y 0), .int .i64 (y 1), .int .i64 (y 2), .int .i64 (y 3), .int .i64 (y 4), .int .i64 (f), .int .i64 (g), .int .u64 (m), .int .u64 (k), .int .i64 (d)] 68)
      rw [← hW1] at hw1 bl1
      have sz1 : W1.heap.size = wr.heap.size + 1 := by rw [hW1]; exact World.size_alloc _ _
      have hb1 : W1.heap[wr.heap.size]? = some (.cells (attC ⟨x, y, f, g, m, k, d⟩).toArray 68 (0, 0)) := hw1
      have HB1 := hid hb1; have SZ1 := hid sz1; have HW1 := hid hW1
      clear hst hst1 hcell hpop hvr hres hall hsd hbl hmk vt dt hm1 hlast hw1 hb1 sz1 hW1
      go_upto_region 6 with fail
      rw [← HW1.out]
      clear c0 c1 c2 c3 c4 c5 c6 c7 c8 c9 c10 c11 c12 c13 c14
      have c0 : W1.cell? ⟨wr.heap.size, 0, none⟩ = some (.int .i64 (x 0)) := cell_box (W := W1) HB1.out rfl
      have c1 : W1.cell? ⟨wr.heap.size, 1, none⟩ = some (.int .i64 (x 1)) := cell_box (W := W1) HB1.out rfl
      have c2 : W1.cell? ⟨wr.heap.size, 2, none⟩ = some (.int .i64 (x 2)) := cell_box (W := W1) HB1.out rfl
      have c3 : W1.cell? ⟨wr.heap.size, 3, none⟩ = some (.int .i64 (x 3)) := cell_box (W := W1) HB1.out rfl
      have c4 : W1.cell? ⟨wr.heap.size, 4, none⟩ = some (.int .i64 (x 4)) := cell_box (W := W1) HB1.out rfl
      have c5 : W1.cell? ⟨wr.heap.size, 5, none⟩ = some (.int .i64 (y 0)) := cell_box (W := W1) HB1.out rfl
      have c6 : W1.cell? ⟨wr.heap.size, 6, none⟩ = some (.int .i64 (y 1)) := cell_box (W := W1) HB1.out rfl
      have c7 : W1.cell? ⟨wr.heap.size, 7, none⟩ = some (.int .i64 (y 2)) := cell_box (W := W1) HB1.out rfl
      have c8 : W1.cell? ⟨wr.heap.size, 8, none⟩ = some (.int .i64 (y 3)) := cell_box (W := W1) HB1.out rfl
      have c9 : W1.cell? ⟨wr.heap.size, 9, none⟩ = some (.int .i64 (y 4)) := cell_box (W := W1) HB1.out rfl
      have c10 : W1.cell? ⟨wr.heap.size, 10, none⟩ = some (.int .i64 (f)) := cell_box (W := W1) HB1.out rfl
      have c11 : W1.cell? ⟨wr.heap.size, 11, none⟩ = some (.int .i64 (g)) := cell_box (W := W1) HB1.out rfl
      have c12 : W1.cell? ⟨wr.heap.size, 12, none⟩ = some (.int .u64 (m)) := cell_box (W := W1) HB1.out rfl
      have c13 : W1.cell? ⟨wr.heap.size, 13, none⟩ = some (.int .u64 (k)) := cell_box (W := W1) HB1.out rfl
      have c14 : W1.cell? ⟨wr.heap.size, 14, none⟩ = some (.int .i64 (d)) := cell_box (W := W1) HB1.out rfl
      have s0 : W1.cell? ⟨w.heap.size, 0, none⟩ = some (.slice pa xa.length ca) := cell_box (below_blk bl1.out HSD.out) rfl
      have s1 : W1.cell? ⟨w.heap.size, 1, none⟩ = some (.slice pb xb.length cb) := cell_box (below_blk bl1.out HSD.out) rfl
      have HBW : Hid (Below w.heap.size w W1) := hid (HBL.out.trans (bl1.out.mono (HBL.out.size)))
      have HPW : Hid (Stk (w.heap.size + 1) W1 (.slice (some ⟨g0, 0, none⟩) last cap) st') := hid (HPOP.out.below (fun q hq => bl1.out.block q (HPOP.out.lt hq).1))
      have HVW : Hid (VRow W1 (w.heap.size + 1) u3 fs) := hid (HVR.out.below bl1.out)
      have HSW : Hid (W1.heap[w.heap.size]? = some (.cells #[.slice pa xa.length ca, .slice pb xb.length cb] 48 (0, 0))) := hid (below_blk bl1.out HSD.out)
      have HIA : Hid (IntsIn (fun b => b < w.heap.size + 1) W1 pa xa) := hid ((HA.out.same (fun b hb => HBW.out.block b hb)).mono (fun b hb => by omega))
      have HIB : Hid (IntsIn (fun b => b < w.heap.size + 1) W1 pb xb) := hid ((HB.out.same (fun b hb => HBW.out.block b hb)).mono (fun b hb => by omega))
      have HWS : Hid (w.heap.size + 1 ≤ W1.heap.size) := hid (by have := HBL.out.size; have := SZ1.out; omega)
      have HM2 : Hid (M = (st'.map (siz p 13)).sum + siz p 13 ⟨x, y, f, g, m, k, d⟩) := hid (by rw [HM1.out]; simp)
      have HRS : Hid (fs.map Vc.l ++ (res p 13 ⟨x, y, f, g, m, k, d⟩ ++ st'.reverse.flatMap (res p 13)) = res p 13 root) := hid (by have h := HRES.out; rwa [List.reverse_append, List.reverse_singleton, List.singleton_append, List.flatMap_cons] at h)
      have HAL : Hid (∀ t ∈ st', Val p A B t ∧ Deep p 13 t) := hid (fun t ht => HALL.out t (List.mem_append_left _ ht))
      have HLE : Hid (last + 5 ≤ 1000000000000) := hid (by omega)
      clear HW1 HRES HALL HM1 HPOP HVR HSD
      by_cases hc : com ⟨x, y, f, g, m, k, d⟩ = 1
      · obtain ⟨r1, r2, r3⟩ : res p 13 ⟨x, y, f, g, m, k, d⟩ = (kids p ⟨x, y, f, g, m, k, d⟩).reverse.flatMap (res p 13) ∧ siz p 13 ⟨x, y, f, g, m, k, d⟩ = 1 + ((kids p ⟨x, y, f, g, m, k, d⟩).map (siz p 13)).sum ∧ ∀ c ∈ kids p ⟨x, y, f, g, m, k, d⟩, Deep p 13 c := step_res (D := 12) HDT.out hc
        have HFIN : Hid (∀ v' W', Stk (w.heap.size + 1) W' v' (st' ++ kids p ⟨x, y, f, g, m, k, d⟩) → Fr (fun q => (Value.slice (some ⟨g0, 0, none⟩) last cap).ownBlock = some q) W1 W' → ∃ M', M' < M ∧ SRel p A B w (.slice pa xa.length ca) (.slice pb xb.length cb) M' u3 v' W') := hid (by
          intro v' W' hS hF
          refine ⟨((st' ++ kids p ⟨x, y, f, g, m, k, d⟩).map (siz p 13)).sum, ?_, fs, _, rfl, ?_, ?_, hS, ?_, ?_, ?_, ?_⟩
          · have := HM2.out; rw [r2] at this; rw [List.map_append, List.sum_append]; omega
          · have := HM2.out; rw [r2] at this; rw [List.map_append, List.sum_append]; omega
          · refine HVW.out.keep (fun q cur t hq ht => hF.same q (Array.getElem?_eq_some_iff.1 hq).1 (fun e => ?_))
            obtain ⟨cur', h1, _⟩ := own_blk HPW.out e
            exact ne_type hq h1 (by rcases ht with rfl | rfl <;> decide) rfl
          · rw [List.reverse_append, List.flatMap_append, ← r1]
            exact HRS.out
          · intro t ht
            rcases List.mem_append.1 ht with ht | ht
            · exact HAL.out t ht
            · exact ⟨(HV.out.kid ok hc ht).1, r3 t ht⟩
          · refine (hF.same _ (by have := HWS.out; omega) (fun e => ?_)).trans HSW.out
            have := (HPW.out.lt e).2
            omega
          · refine HBW.out.trans (hF.below (fun q hq => ?_) (by have := HWS.out; omega))
            have := (HPW.out.lt hq).2
            omega)
        rw [hc] at hand
        clear r1 r2 r3
        by_cases hd : 0 < d
        · have HP := hid (pushY_any p x y f g m k d (w.heap.size + 1) (.slice (some ⟨g0, 0, none⟩) last cap) st' pa pb ca cb xa xb W1 HIB.out Hlb.out Hb.out (fun i hi => ⟨(ok.b1 i hi).1, by have := (ok.b1 i hi).2; omega⟩) h6 HMK.out.2.1 (HV.out.cntY hA6) hd (by have : d ≤ A := HV.out.dh; omega) (by rw [HLA.out]; exact HLE.out) HPW.out HWS.out)
          clear hc hd
          go_wp2_with fail
          refine HP.out.mono ?_
          rintro e w1 ⟨v', rfl, hS, hF, _⟩
          have HFF := hid (HFIN.out v' w1 hS hF)
          clear hS hF
          go_wp2_with fail
          go_roundw
          case rel => obtain ⟨M', _, h⟩ := HFF.out; exact ⟨M', h⟩
          case measure => rw [HD.out]; obtain ⟨M', hlt, h⟩ := HFF.out; exact SRel.lt h hlt
        · have HP := hid (pushX_any p x y f g m k d (w.heap.size + 1) (.slice (some ⟨g0, 0, none⟩) last cap) st' pa pb ca cb xa xb W1 HIA.out Hla.out Ha.out (fun i hi => ⟨(ok.a1 i hi).1, by have := (ok.a1 i hi).2; omega⟩) h5 HMK.out.1 (HV.out.cntX hB6) (by omega) (by have : -(B : Int) < d := HV.out.dl; omega) (by rw [HLA.out]; exact HLE.out) HPW.out HWS.out)
          clear hc hd
          go_wp2_with fail
          refine HP.out.mono ?_
          rintro e w1 ⟨v', rfl, hS, hF, _⟩
          have HFF := hid (HFIN.out v' w1 hS hF)
          clear hS hF
          go_wp2_with fail
          go_roundw
          case rel => obtain ⟨M', _, h⟩ := HFF.out; exact ⟨M', h⟩
          case measure => rw [HD.out]; obtain ⟨M', hlt, h⟩ := HFF.out; exact SRel.lt h hlt
      · have hleaf : res p 13 ⟨x, y, f, g, m, k, d⟩ = if d = 0 ∧ cnt (com ⟨x, y, f, g, m, k, d⟩) = 2 then [told p ⟨x, y, f, g, m, k, d⟩] else [] := res_leaf (D := 12) hc
        have hsz := siz_pos HDT.out
        have HSK : Hid (¬ (d = 0 ∧ cnt (com ⟨x, y, f, g, m, k, d⟩) = 2) → ∃ M', M' < M ∧ SRel p A B w (.slice pa xa.length ca) (.slice pb xb.length cb) M' u3 (.slice (some ⟨g0, 0, none⟩) last cap) W1) := hid (by
          intro hn
          rw [if_neg hn] at hleaf
          refine ⟨(st'.map (siz p 13)).sum, ?_, fs, st', rfl, ?_, HVW.out, HPW.out, ?_, HAL.out, HSW.out, HBW.out⟩
          · have := HM2.out; omega
          · have := HM2.out; omega
          · have h := HRS.out; rwa [hleaf, List.nil_append] at h)
        obtain ⟨z, hz⟩ : ∃ z : Nat, com ⟨x, y, f, g, m, k, d⟩ = z := ⟨_, rfl⟩
        have hz64 : z < 18446744073709551616 := by have := HMK.out.2.2; rw [hz] at this; simp only [Nat.reducePow] at this; omega
        have hz1 : ((z : Int) == 1) = false := by rw [hz] at hc; simp; omega
        have HO := hid (only_any z W1 hz64)
        rw [hz] at hand
        by_cases hd0 : d = 0
        · by_cases hcn : cnt z = 2
          · rw [decide_eq_true hcn] at HO
            have hmin : Min p x y := (min_iff HV.out ok hA6 hB6 hd0 hc).1 (by rw [hz]; exact hcn)
            have hpos : 0 < p.n + p.q := by
              have h1 := hmin.pos
              rcases Nat.eq_zero_or_pos p.n with h0 | h0
              · rw [h0] at h1; exact absurd h1 (Nat.lt_irrefl 0)
              · omega
            have hlT : 0 < (told p ⟨x, y, f, g, m, k, d⟩).length := by unfold told tolds; simp; omega
            rw [if_pos ⟨hd0, by rw [hz]; exact hcn⟩] at hleaf
            have HT := hid (told_any p x y f g m k d pa pb ca cb xa.length xb.length W1 Hla.out Hlb.out h5 h6 hpos)
            have HLT := hid hlT; have HLF := hid hleaf; have HSZ := hid hsz
            subst hd0
            clear hleaf hsz hc hz hz64 hcn hmin hpos hlT HSK
            go_wp2_with fail
            refine HO.out.mono ?_
            rintro e w1 ⟨rfl, rfl⟩
            go_wp2_with fail
            refine HT.out.mono ?_
            rintro e w2 ⟨q, c, rfl, hCR, hB2⟩
            obtain ⟨b, rfl, hbb, hvc⟩ := vc_of hCR HLT.out
            have hR2 := HVW.out.below hB2
            rw [toI_len]
            obtain ⟨v', w3, hr, hR3, hF3⟩ := run_appV 49 (w.heap.size + 1) u3 fs ⟨b, c, told p ⟨x, y, f, g, m, k, 0⟩⟩ (w2.alloc (.cells #[vcV ⟨b, c, told p ⟨x, y, f, g, m, k, 0⟩⟩] 52)) (hR2.below (alloc_below0 w2 _)) w2.heap.size (World.alloc_heap_new w2 _) (hvc.same ((alloc_below0 w2 _).block _ (by obtain ⟨cur, h1, _⟩ := hvc.blk; exact (Array.getElem?_eq_some_iff.1 h1).1))) (by have := HWS.out; show _ ≤ b; omega) (fun y' hy' e => by
              obtain ⟨cur, h1, _⟩ := (HVW.out.vec y' hy').2.blk
              have := (Array.getElem?_eq_some_iff.1 h1).1
              have e' : y'.b = b := e
              omega) (by
              have h1 := res_len p 13 root
              have h2 := siz_pow h5 h6 13 root
              rw [← HRS.out, List.length_append, List.length_map] at h1
              simp only [Nat.reducePow] at h2
              omega) (by rw [World.size_alloc]; have := hB2.size; have := HWS.out; omega)
            have hF3' : Fr (fun q => u3.ownBlock = some q) w1 w3 := (Fr.of_below (hB2.trans ((alloc_below0 w2 _).mono hB2.size))).trans hF3
            have hno : ∀ q, u3.ownBlock = some q → ∃ cur, w1.heap[q]? = some (.cells cur 52 (0, 0)) := fun q hq => let ⟨cur, h, _⟩ := own_blk HVW.out.row hq; ⟨cur, h⟩
            have HFIN : Hid (∃ M', M' < M ∧ SRel p A B w (.slice pa xa.length ca) (.slice pb xb.length cb) M' v' (.slice (some ⟨g0, 0, none⟩) last cap) w3) := hid (by
              refine ⟨(st'.map (siz p 13)).sum, ?_, _, st', rfl, ?_, hR3, ?_, ?_, HAL.out, ?_, ?_⟩
              · have := HM2.out; have := HSZ.out; omega
              · have := HM2.out; omega
              · refine HPW.out.below (fun q hq => hF3'.same q (HPW.out.lt hq).1 (fun e => ?_))
                obtain ⟨cur, h1⟩ := hno q e
                obtain ⟨cur', h1', _⟩ := own_blk HPW.out hq
                exact ne_type h1 h1' (by decide) rfl
              · have h := HRS.out
                rw [HLF.out] at h
                rw [List.map_append, List.append_assoc]
                exact h
              · refine (hF3'.same _ (by have := HWS.out; omega) (fun e => ?_)).trans HSW.out
                obtain ⟨cur, h1⟩ := hno _ e
                exact ne_type h1 HSW.out (by decide) rfl
              · refine HBW.out.trans (hF3'.below (fun q hq => ?_) (by have := HWS.out; omega))
                have := (own_blk HVW.out.row hq).choose_spec.2
                omega)
            have HR := hid hr
            clear hr hR3 hF3 hF3' hno hCR hB2 hvc hR2 hbb
            go_wp2_with (first
              | (at_builtin; refine Lib.wpList_append_run _ rfl _ _ _ _ rfl _ _ rfl rfl _ _ HR.out ?_; clear HR)
              | fail)
            go_roundw
            case rel => obtain ⟨M', _, h⟩ := HFIN.out; exact ⟨M', h⟩
            case measure => rw [HD.out]; obtain ⟨M', hlt, h⟩ := HFIN.out; exact SRel.lt h hlt
          · rw [decide_eq_false hcn] at HO
            have HFIN := hid (HSK.out (fun h => hcn (by rw [← hz]; exact h.2)))
            subst hd0
            clear hleaf hsz hc hz hz64 hcn HSK
            go_wp2_with fail
            refine HO.out.mono ?_
            rintro e w1 ⟨rfl, rfl⟩
            go_wp2_with fail
            go_roundw
            case rel => obtain ⟨M', _, h⟩ := HFIN.out; exact ⟨M', h⟩
            case measure => rw [HD.out]; obtain ⟨M', hlt, h⟩ := HFIN.out; exact SRel.lt h hlt
        · have hd1 : (d == 0) = false := by simp; exact hd0
          have HFIN := hid (HSK.out (fun h => hd0 h.1))
          clear hleaf hsz hc hz hz64 hd0 HSK HO
          go_wp2_with fail
          go_roundw
          case rel => obtain ⟨M', _, h⟩ := HFIN.out; exact ⟨M', h⟩
          case measure => rw [HD.out]; obtain ⟨M', hlt, h⟩ := HFIN.out; exact SRel.lt h hlt
end Go.Proofs.Ytbdkogccjnmfoaa
