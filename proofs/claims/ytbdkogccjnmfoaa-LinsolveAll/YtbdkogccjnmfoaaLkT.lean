/- Basis, its answer's spare room told. -/
import Derived.Test.YtbdkogccjnmfoaaLiR
namespace Go.Proofs.Ytbdkogccjnmfoaa
open Go.RowKit Go.Shelf

attribute [local go_sem] Oper.semAt_some
/-- A row of vectors, its spare room empty. -/
structure XRowZ (w : World) (base : Nat) (v : Value) (vs : List Vc) : Prop where
  own : (v = .slice none 0 0 ∧ vs = []) ∨ ∃ g cap, v = .slice (some ⟨g, 0, none⟩) vs.length cap ∧ base ≤ g ∧ vs.length ≤ cap ∧ cap ≤ maxLen ∧ w.heap[g]? = some (.cells (vs.map vcV ++ List.replicate (cap - vs.length) (Value.slice none 0 0)).toArray 27 (0, 0))
  vec : ∀ x ∈ vs, VcAt w x
theorem XRowZ.row {w : World} {base : Nat} {v : Value} {vs : List Vc} (h : XRowZ w base v vs) : w.ownsRow base 27 1 v vs.length (vs.map vcV) := by
  rcases h.own with ⟨rfl, rfl⟩ | ⟨g, cap, rfl, h2, h3, h4, h5⟩
  · exact World.ownsRow_nil _ _ _ _
  · refine ⟨by simp, .inr ⟨g, cap, _, rfl, h2, h5, h3, h4, by simp; omega, ?_⟩⟩
    simp
theorem XRowZ.x {w : World} {base : Nat} {v : Value} {vs : List Vc} (h : XRowZ w base v vs) : XRow w base v vs := ⟨h.row, h.vec⟩
theorem XRowZ.nil (w : World) (base : Nat) : XRowZ w base (.slice none 0 0) [] := ⟨.inl ⟨rfl, rfl⟩, by simp⟩
theorem XRowZ.keep {w w' : World} {base : Nat} {v : Value} {vs : List Vc} (h : XRowZ w base v vs) (hs : ∀ q, v.ownBlock = some q → w'.heap[q]? = w.heap[q]?) (ht : ∀ x ∈ vs, w'.heap[x.b]? = w.heap[x.b]?) : XRowZ w' base v vs := by
  refine ⟨?_, fun x hx => (h.vec x hx).same (ht x hx)⟩
  rcases h.own with h0 | ⟨g, cap, rfl, h2, h3, h4, h5⟩
  · exact .inl h0
  · exact .inr ⟨g, cap, rfl, h2, h3, h4, (hs g rfl).trans h5⟩
theorem XRowZ.below {w w' : World} {base : Nat} {v : Value} {vs : List Vc} (h : XRowZ w base v vs) (hb : Below w.heap.size w w') : XRowZ w' base v vs :=
  h.keep (fun q hq => by obtain ⟨cur, h1, _⟩ := own_blk h.row hq; exact hb.block q (Array.getElem?_eq_some_iff.1 h1).1) (fun x hx => by obtain ⟨cur, h1, _⟩ := (h.vec x hx).blk; exact hb.block _ (Array.getElem?_eq_some_iff.1 h1).1)
theorem XRowZ.form {w : World} {base : Nat} {v : Value} {vs : List Vc} (h : XRowZ w base v vs) : ∃ q c, v = .slice q vs.length c := h.x.form
theorem XRowZ.mono {w : World} {base base' : Nat} {v : Value} {vs : List Vc} (h : XRowZ w base v vs) (hb : base' ≤ base) : XRowZ w base' v vs := ⟨by
  rcases h.own with h0 | ⟨g, cap, h1, h2, h3⟩
  · exact .inl h0
  · exact .inr ⟨g, cap, h1, Nat.le_trans hb h2, h3⟩, h.vec⟩
theorem zero_cells (z : Value) (hz : z.cells = #[z]) (n : Nat) : (Builtin.zeroCells z.cells n).toList = List.replicate n z := by
  rw [hz]
  refine List.ext_getElem (by simp [Builtin.zeroCells]) (fun i h1 h2 => ?_)
  simp [Builtin.zeroCells, Nat.mod_one]
/-- A vector more, the room behind it told. -/
theorem run_appZ (ty base : Nat) (v : Value) (vs : List Vc) (x : Vc) (w : World) (hR : XRowZ w base v vs) (b : Nat) (hb : w.heap[b]? = some (.cells #[vcV x] 27 (0, 0))) (hx : VcAt w x) (hn : vs.length + 1 ≤ 1000000000000) (hbase : base ≤ w.heap.size) :
    ∃ v' w', (Builtin.append_ #[23, 23] ty #[v, .slice (some ⟨b, 0, none⟩) 1 1]).run Try.prog w = .ok v' w' ∧ XRowZ w' base v' (vs ++ [x]) ∧ Fr (fun q => v.ownBlock = some q) w w' := by
  obtain ⟨i, hi, hz, hsize, hby⟩ := info_parts info27
  have hmax : maxLen = 9223372036854775807 := rfl
  have hnn : ∀ j u, [vcV x][j]? = some u → w.cell? ((⟨b, 0, none⟩ : Addr).add j) = some u := fun j u hj => by
    match j, hj with
    | 0, hj => cases hj; exact cell_box hb rfl
  have hone : ∀ u ∈ [vcV x], u.oneCell' = true := fun u hu => by rw [List.mem_singleton.1 hu]; rfl
  have hlen : (vs ++ [x]).length = vs.length + 1 := by simp
  have hlm : (vs.map vcV).length = vs.length := by simp
  have vk : ∀ w', Fr (fun q => v.ownBlock = some q) w w' → ∀ y, VcAt w y → VcAt w' y := fun w' hf y hy => hy.same (by
    obtain ⟨cur, h1, _⟩ := hy.blk
    refine hf.same _ (Array.getElem?_eq_some_iff.1 h1).1 (fun e => ?_)
    obtain ⟨cur', h1', _⟩ := own_blk hR.row e
    exact ne_type h1 h1' (by decide) rfl)
  have vec' : ∀ w', Fr (fun q => v.ownBlock = some q) w w' → ∀ y ∈ vs ++ [x], VcAt w' y := fun w' hf y hy => by
    rcases List.mem_append.1 hy with hy | hy
    · exact vk w' hf y (hR.vec y hy)
    · rw [List.mem_singleton.1 hy]; exact vk w' hf x hx
  have fin : ∀ old : Nat, Fr (fun q => v.ownBlock = some q) w (w.drew.alloc (.cells ((vs.map vcV).toArray ++ [vcV x].toArray ++ Builtin.zeroCells (Value.slice none 0 0).cells (grownCap w (vs.length + 1) old 27 - (vs.length + 1))) 27)) ∧ ∃ g cap, (Value.slice (some ⟨w.heap.size, 0, none⟩) (vs.length + 1) (grownCap w (vs.length + 1) old 27)) = .slice (some ⟨g, 0, none⟩) (vs ++ [x]).length cap ∧ base ≤ g ∧ (vs ++ [x]).length ≤ cap ∧ cap ≤ maxLen ∧ (w.drew.alloc (.cells ((vs.map vcV).toArray ++ [vcV x].toArray ++ Builtin.zeroCells (Value.slice none 0 0).cells (grownCap w (vs.length + 1) old 27 - (vs.length + 1))) 27)).heap[g]? = some (.cells ((vs ++ [x]).map vcV ++ List.replicate (cap - (vs ++ [x]).length) (Value.slice none 0 0)).toArray 27 (0, 0)) := fun old => by
    refine ⟨Fr.of_below ((Below.refl _ w).drew.alloc (Nat.le_refl _) _), w.heap.size, _, by rw [hlen], hbase, by rw [hlen]; exact grownCap_ge w (vs.length + 1) old 27, grownCap_le_maxLen w (vs.length + 1) old 27 (by omega), ?_⟩
    rw [show w.heap.size = w.drew.heap.size from rfl, World.alloc_heap_new w.drew]
    congr 2
    refine Array.toList_inj.1 ?_
    rw [Array.toList_append, zero_cells _ rfl, hlen]
    simp
  rcases hR.own with ⟨rfl, rfl⟩ | ⟨g, cap, rfl, h2, h3, h4, h5⟩
  · have hr := run_append_nil (P := Try.prog) w 23 ty 27 i _ Try.underlying23 hi hz ⟨b, 0, none⟩ 1 1 [vcV x] (by rw [hsize]; rfl) hnn (by omega) (by omega) (by rw [hby]; omega)
    have h9 := fin 0
    simp only [List.map_nil, List.length_nil, Nat.zero_add, List.nil_append, Array.empty_append] at h9
    exact ⟨_, _, hr, ⟨.inr h9.2, vec' _ h9.1⟩, h9.1⟩
  · by_cases hroom : vs.length + 1 ≤ cap
    · have hr := run_append_room (P := Try.prog) w 23 ty 27 i Try.underlying23 hi g vs.length cap _ h5 ⟨b, 0, none⟩ 1 1 [vcV x] (by rw [hsize]; rfl) hnn hone hroom (by rw [hsize]; simp; omega)
      have hf : ∀ cs, Fr (fun q => (Value.slice (some ⟨g, 0, none⟩) vs.length cap).ownBlock = some q) w (w.setRow g cs) := fun cs => ⟨⟨rfl, rfl, rfl, Nat.le_of_eq (by simp [World.setRow]), fun k hk => absurd hk (Nat.not_lt_zero k)⟩, fun q hq hA => setRow_other w g q _ (fun e => hA (by rw [e]; rfl))⟩
      refine ⟨_, _, hr, ⟨.inr ⟨g, cap, by rw [hlen], h2, by omega, h4, ?_⟩, vec' _ (hf _)⟩, hf _⟩
      rw [setRow_heap w g _ _ 27 (0, 0) h5]
      congr 2
      rw [hsize, Nat.mul_one]
      obtain ⟨k, hk⟩ : ∃ k, cap - vs.length = k + 1 := ⟨cap - vs.length - 1, by omega⟩
      rw [hk, hlen, show cap - (vs.length + 1) = k by omega]
      simp
      rw [List.drop_append]
      simp
    · have holds : ∀ j u, (vs.map vcV)[j]? = some u → w.cell? ((⟨g, 0, none⟩ : Addr).add j) = some u := fun j u hj => by
        obtain ⟨hjl, hju⟩ := List.getElem?_eq_some_iff.1 hj
        rw [Addr.add_lit]
        refine cell_box h5 ?_
        rw [Nat.zero_add, List.getElem?_toArray, List.getElem?_append_left hjl]
        exact hj
      have hr := run_append_grow (P := Try.prog) w 23 ty 27 i _ Try.underlying23 hi hz ⟨g, 0, none⟩ vs.length cap (vs.map vcV) (by rw [hsize, Nat.mul_one, hlm]) holds ⟨b, 0, none⟩ 1 1 [vcV x] (by rw [hsize]; rfl) hnn (by omega) (by omega) (growslice_fits (by omega) (by rw [hby]; omega))
      exact ⟨_, _, hr, ⟨.inr (fin cap).2, vec' _ (fin cap).1⟩, (fin cap).1⟩
/-- What gone keeps as it goes: a box with the row, the deferred list. -/
structure GKz (w : World) (Y D : Nat) (vs : List Vc) (V k : Nat) (W : World) : Prop where
  y0 : ∃ v, W.heap[Y]? = some (.cells #[v] 23 (0, 0)) ∧ XRowZ W V v (vs.take k)
  df : W.heap[D]? = some (.deferred (some []))
  vec : ∀ x ∈ vs, VcAt W x
  far : ∀ x ∈ vs, D + 2 ≤ x.b
  low : Below Y w W
  yd : Y < D
  dv : D + 2 ≤ V
  vw : V ≤ W.heap.size
theorem GKz.fr {w : World} {Y D : Nat} {vs : List Vc} {V k : Nat} {W W' : World} (h : GKz w Y D vs V k W) (hf : Fr (fun q => q = D + 1) W W') : GKz w Y D vs V k W' := by
  have hyd := h.yd; have hdv := h.dv; have hvw := h.vw
  have keep : ∀ {b : Nat} {o : Obj}, W.heap[b]? = some o → b ≠ D + 1 → W'.heap[b]? = some o := fun hb hle => (hf.same _ (Array.getElem?_eq_some_iff.1 hb).1 hle).trans hb
  obtain ⟨v, hv, hz⟩ := h.y0
  have hvec : ∀ x ∈ vs, W'.heap[x.b]? = W.heap[x.b]? := fun x hx => by
    obtain ⟨cur, h1, _⟩ := (h.vec x hx).blk
    exact hf.same _ (Array.getElem?_eq_some_iff.1 h1).1 (by have := h.far x hx; omega)
  refine ⟨⟨v, keep hv (by omega), hz.keep (fun q hq => ?_) (fun x hx => hvec x (List.mem_of_mem_take hx))⟩, keep h.df (by omega), fun x hx => (h.vec x hx).same (hvec x hx), h.far, h.low.trans (hf.below (fun q hq => by omega) (by omega)), h.yd, h.dv, Nat.le_trans hvw hf.low.size⟩
  obtain ⟨cur, h1, h2⟩ := own_blk hz.row hq
  exact hf.same _ (Array.getElem?_eq_some_iff.1 h1).1 (by omega)
/-- How Basis ends. -/
def BasisEndZ (a b : List Int) (w : World) (e : Ending) (w' : World) : Prop := Below w.heap.size w w' ∧
  ((chkE a b ≠ 0 ∧ e = .returned (.tuple #[.slice none 0 0, .int .i64 (chkE a b)])) ∨
   (chkE a b = 0 ∧ ∃ vs : List Vc, IsMin (pbOf a b) (vs.map Vc.l) ∧ ((16 < vs.length ∧ e = .returned (.tuple #[.slice none 0 0, .int .i64 2])) ∨ (vs.length ≤ 16 ∧ ∃ v, e = .returned (.tuple #[v, .int .i64 0]) ∧ XRowZ w' w.heap.size v vs ∧ ∀ x ∈ vs, w.heap.size ≤ x.b))))
set_option maxRecDepth 100000 in
set_option maxHeartbeats 8000000 in
theorem basis_z (p : Option Addr) (c : Nat) (a : List Int) (q : Option Addr) (d : Nat) (b : List Int) (w : World) (hA : IntsAt w p a) (hB : IntsAt w q b) :
    Calls Try.prog 10 #[.slice p a.length c, .slice q b.length d] w (BasisEndZ a b w) := by
  refine (callsIn_wide (n := 12)).1 ?_
  obtain ⟨A2, hA2⟩ : ∃ W, W = (w.alloc (.cells #[.slice none 0 0] 23)).alloc (.cells #[.int .i64 0] 24) := ⟨_, rfl⟩
  obtain ⟨b2, n1, n2, s2⟩ := two_new w A2 hA2
  have b1 := alloc_below0 A2 (.cells #[.slice none 0 0] 23)
  have n3 := World.alloc_heap_new A2 (.cells #[.slice none 0 0] 23)
  have s1 := World.size_alloc A2 (.cells #[.slice none 0 0] 23)
  have HCK := hid (check_any p c a q d b A2 (hA.below b2) (hB.below b2))
  have HAL := hid (all_any p c a q d b (A2.alloc (.cells #[.slice none 0 0] 23)) ((hA.below b2).below b1) ((hB.below b2).below b1))
  have HA2 := hid hA2; have HB2 := hid b2; have HN1 := hid n1; have HN2 := hid n2; have HS2 := hid s2; have HB1 := hid b1; have HN3 := hid n3; have HS1 := hid s1
  have q1 : A2.cell? ⟨w.heap.size, 0, none⟩ = some (.slice none 0 0) := cell_box n1 rfl
  have q2 : A2.cell? ⟨w.heap.size + 1, 0, none⟩ = some (.int .i64 0) := cell_box n2 rfl
  have z1 : A2.frozen? ⟨w.heap.size, 0, none⟩ = false := free_box n1
  have z2 : A2.frozen? ⟨w.heap.size + 1, 0, none⟩ = false := free_box n2
  obtain ⟨R, hR⟩ : ∃ R, chkE a b = R := ⟨_, rfl⟩
  have HR := hid hR
  rw [hR] at HCK
  clear hA hB hA2 b2 n1 n2 s2 b1 n3 s1 hR
  refine callsIn_of_wp_marks Try.func10 rfl trivial ?_ rfl
  simp only [Try.ntmps10, List.size_toArray, List.length_cons, List.length_nil, Nat.reduceAdd, Nat.reduceSub, Array.replicate_succ, Array.replicate_zero, List.push_toArray, List.append_toArray, List.nil_append, List.cons_append]
  gi_wp2_with fail
  rw [← HA2.out]
  refine ⟨trivial, ?_⟩
  refine (callsIn_wide.2 HCK.out).mono ?_
  intro e w1 h1
  obtain ⟨rfl, h2⟩ := h1
  rw [h2]
  clear h2 HCK
  by_cases h0 : R = 0
  · subst h0
    clear q1 q2 z1 z2
    gi_wp2_with fail
    refine ⟨trivial, ?_⟩
    refine (callsIn_wide.2 HAL.out).mono ?_
    rintro e W1 ⟨hb2, (⟨h0, rfl⟩ | ⟨h0, B0, rfl, hsd⟩)⟩
    · exact absurd HR.out h0
    have H0 := hid h0; have HBW := hid hb2; have HSD := hid hsd
    obtain ⟨l5, l6, _, _⟩ := chk_zero h0
    clear h0 hb2 hsd HAL
    gi_wp2_with fail
    obtain ⟨D, hD⟩ : ∃ D, W1.heap.size = D := ⟨_, rfl⟩
    obtain ⟨Y, hY⟩ : ∃ Y, w.heap.size = Y := ⟨_, rfl⟩
    obtain ⟨Y2, hY2⟩ : ∃ Y2, A2.heap.size = Y2 := ⟨_, rfl⟩
    have hYY : Y2 = Y + 2 := by have := HS2.out; omega
    have HYE := hid hY; have HY2 := hid hY2
    have hYD : Y2 < D := by have := HBW.out.size; have := HS1.out; omega
    rw [hY, hY2]
    subst hYY
    clear hY2
    refine range_law rfl (by omega) (gf := 36) (lb := #[.pointer (some ⟨B0, 0, none⟩)]) rfl trivial (enters_of Try.func36 (by kernel_rfl) rfl) ?_
    intro r hr1 hr2 hr3 hr4 hr5 hr6 hr7
    rw [hD]
    obtain ⟨k1, k2, k3, k4⟩ := two_alloc W1 r hD
    have hsd0 : SdAt (fun b => b < ((W1.alloc (.deferred (some []))).alloc (.loop r)).heap.size) ((W1.alloc (.deferred (some []))).alloc (.loop r)) B0 (pbOf a b) := (HSD.out.same (fun q hq => k3.block q (by omega))).mono (fun q hq => by omega)
    have hlow0 : Below (Y + 2) A2 ((W1.alloc (.deferred (some []))).alloc (.loop r)) := by
      rw [← HY2.out]
      exact HB1.out.trans ((HBW.out.mono (by have := HS1.out; have := HY2.out; omega)).trans (k3.mono (by have := HY2.out; omega)))
    have hbox0 : ((W1.alloc (.deferred (some []))).alloc (.loop r)).heap[(Y + 2)]? = some (.cells #[.slice none 0 0] 23 (0, 0)) := by
      rw [← HY2.out]
      exact (k3.block _ (by have := HY2.out; omega)).trans ((HBW.out.block _ (by have := HS1.out; omega)).trans HN3.out)
    generalize (W1.alloc (.deferred (some []))).alloc (.loop r) = W0 at k1 k2 k3 k4 hsd0 hlow0 hbox0 ⊢
    have hbig := Nat.le_trans (res_len (pbOf a b) 13 root) (siz_pow (p := pbOf a b) l5 l6 13 root)
    simp only [Nat.reducePow] at hbig
    have hm1 : ∀ W, Below (Y + 2) A2 W → W.heap[Y]? = some (.cells #[.slice none 0 0] 23 (0, 0)) ∧ W.heap[Y + 1]? = some (.cells #[.int .i64 0] 24 (0, 0)) := fun W hb => by
      have e1 := HN1.out; have e2 := HN2.out
      rw [HYE.out] at e1 e2
      exact ⟨(hb.block _ (by omega)).trans e1, (hb.block _ (by omega)).trans e2⟩
    have HM1 := hid hm1
    have hlow : ∀ W, Below (Y + 2) A2 W → Below Y w W := fun W hb => by
      have := HB2.out
      rw [HYE.out] at this
      exact this.trans (hb.mono (by omega))
    have HLOW := hid hlow
    clear hm1 hlow
    refine (all_in 7 (D + 1) B0 (pbOf a b) 6 6 (pb_ok H0.out) (by omega) (by omega) l5 l6
      (fun vs V k W => (GKz A2 (Y + 2) D vs V k W ∧ k ≤ 16) ∧ W.heap[D + 1]? = some (.loop r) ∧ IsMin (pbOf a b) (vs.map Vc.l))
      (fun W => W.heap[D]? = some (.deferred (some [])) ∧ W.heap[D + 1]? = some (.loop { r with state := .done, pending := some .ret }) ∧ W.heap[Y]? = some (.cells #[.slice none 0 0] 23 (0, 0)) ∧ W.heap[Y + 1]? = some (.cells #[.int .i64 2] 24 (0, 0)) ∧ Below Y w W ∧ ∃ vs : List Vc, IsMin (pbOf a b) (vs.map Vc.l) ∧ 16 < vs.length) W0 hsd0 ?_ ?_).mono ?_
    · intro vs W2 hb hmin hvec _
      refine ⟨⟨⟨⟨_, (hb.block _ (by omega)).trans hbox0, by rw [List.take_zero]; exact XRowZ.nil _ _⟩, (hb.block _ (by omega)).trans k1, fun x hx => (hvec x hx).2, fun x hx => by have := (hvec x hx).1; omega, hlow0.trans (hb.mono (by omega)), hYD, by have := hb.size; omega, Nat.le_refl _⟩, by omega⟩, (hb.block _ (by omega)).trans k2, hmin⟩
    · rintro mm vs V k W x hxk ⟨⟨hK, h16⟩, hLp, hmin⟩ hVW hWV
      refine yield_by hr5 hr6 hr3 hr4 hLp hr1 rfl hr7 ?_
      have HK := hid hK; have HLP := hid hLp; have HXK := hid hxk; have HMIN := hid hmin
      have HBG := hid hbig
      have hs0 := k4
      clear hK hLp hxk hmin hr3 hr4 hr5 hr6 k1 k2 k3 hsd0 hlow0 hbox0 hbig
      simp only [List.zip_toArray, List.zip_cons_cons, List.zip_nil_right, List.foldl_toArray, List.foldl_cons, List.foldl_nil, List.setIfInBounds_toArray, List.set_cons_succ, List.set_cons_zero]
      gi_wp2
      refine ⟨HLP.out, ?_⟩
      have hlt : D + 1 < W.heap.size := (Array.getElem?_eq_some_iff.1 HLP.out).1
      have hK2 := HK.out.fr (fr_one (W := W) (D + 1) (.loop { r with state := .busy }))
      have hL2 := World.putObj_heap_same (w := W) (o := .loop { r with state := .busy }) hlt
      have hsm2 : ∀ b, b ≠ D + 1 → (W.putObj (D + 1) (.loop { r with state := .busy })).heap[b]? = W.heap[b]? := fun b hb => World.putObj_heap_other hb
      have hs2 : (W.putObj (D + 1) (.loop { r with state := .busy })).heap.size = W.heap.size := by simp [World.putObj]
      generalize W.putObj (D + 1) (.loop { r with state := .busy }) = W2 at hK2 hL2 hsm2 hs2 ⊢
      obtain ⟨v, hv, hz⟩ := hK2.y0
      have hkl : k < vs.length := (List.getElem?_eq_some_iff.1 HXK.out).1
      have hxv : x ∈ vs := List.mem_of_getElem? HXK.out
      have htk : vs.take k ++ [x] = vs.take (k + 1) := by rw [List.take_add_one, HXK.out]; rfl
      have hlk : (vs.take k).length = k := by rw [List.length_take]; omega
      obtain ⟨p8, c8, hv8⟩ := hz.form
      rw [hlk] at hv8
      subst hv8
      by_cases hk16 : k = 16
      · subst hk16
        obtain ⟨e1, e2⟩ := HM1.out W2 hK2.low
        have x1 : W2.cell? ⟨Y, 0, none⟩ = some (.slice none 0 0) := cell_box e1 rfl
        have x2 : W2.cell? ⟨Y + 1, 0, none⟩ = some (.int .i64 0) := cell_box e2 rfl
        have f1 : W2.frozen? ⟨Y, 0, none⟩ = false := free_box e1
        have f2 : W2.frozen? ⟨Y + 1, 0, none⟩ = false := free_box e2
        have x3 : W2.cell? ⟨(Y + 2), 0, none⟩ = some (.slice p8 16 c8) := cell_box hv rfl
        have HK2 := hid hK2; have HL2 := hid hL2; have HSM := hid hsm2; have HS2' := hid hs2; have HE1 := hid e1; have HE2 := hid e2
        clear hK2 hL2 hsm2 hs2 hv hz e1 e2 htk hlk
        gi_wp2_with fail
        obtain ⟨g1, g2, g3, g4⟩ := two_sets (x := .slice none 0 0) (y := .int .i64 2) HE1.out HE2.out _ rfl
        generalize (W2.setCell ⟨Y, 0, none⟩ (.slice none 0 0)).setCell ⟨Y + 1, 0, none⟩ (.int .i64 2) = W5 at g1 g2 g3 g4 ⊢
        have hyd := HK2.out.yd; have hdv := HK2.out.dv; have hvw := HK2.out.vw; have hsw := HS2'.out
        have hsz5 := g4.size
        have l5' : W5.heap[D + 1]? = some (.loop { r with state := .busy }) := (g3 _ (by omega) (by omega)).trans HL2.out
        refine ⟨l5', fun q h1 h2 h3 => ?_, ?_, .inr ⟨rfl, ?_, ?_, ?_, ?_, ?_, vs, HMIN.out, hkl⟩⟩
        · rw [World.putObj_heap_other (by omega), g3 _ (by omega) (by omega), HSM.out _ (by omega)]
        · rw [show (W5.putObj (D + 1) (.loop { r with state := .done, pending := some .ret })).heap.size = W5.heap.size by simp [World.putObj]]
          omega
        · exact (World.putObj_heap_other (by omega)).trans ((g3 _ (by omega) (by omega)).trans HK2.out.df)
        · exact World.putObj_heap_same (Array.getElem?_eq_some_iff.1 l5').1
        · exact (World.putObj_heap_other (by omega)).trans g1
        · exact (World.putObj_heap_other (by omega)).trans g2
        · exact ((HLOW.out W2 HK2.out.low).trans g4).trans ((fr_one (D + 1) _).below (n := Y) (fun b e => by omega) (by omega))
      · have h16' : ((k : Int) == 16) = false := by simp; omega
        have HK16 : Hid (k + 1 ≤ 16) := hid (by omega)
        clear h16
        have b3 := alloc_below0 W2 (.cells #[vcV x] 27)
        have n3 := World.alloc_heap_new W2 (.cells #[vcV x] 27)
        have s3 := World.size_alloc W2 (.cells #[vcV x] 27)
        have hx3 : VcAt (W2.alloc (.cells #[vcV x] 27)) x := (hK2.vec x hxv).same (b3.block _ (by obtain ⟨cur, h1, _⟩ := (hK2.vec x hxv).blk; exact (Array.getElem?_eq_some_iff.1 h1).1))
        have hlenv : vs.length ≤ 13060694016 := by have h := HMIN.out.perm.length_eq; rw [List.length_map] at h; have := HBG.out; omega
        obtain ⟨v', w4, hr, hX4, hf4⟩ := run_appZ 23 V (Value.slice p8 k c8) (vs.take k) x (W2.alloc (.cells #[vcV x] 27)) (hz.below b3) W2.heap.size n3 hx3 (by omega) (by have := hK2.vw; omega)
        rw [htk] at hX4
        obtain ⟨p9, c9, hv9⟩ := hX4.form
        rw [show (vs.take (k + 1)).length = k + 1 by rw [List.length_take]; omega] at hv9
        subst hv9
        have hown : ∀ q, (Value.slice p8 k c8).ownBlock = some q → V ≤ q := fun q hq => (own_blk hz.row hq).choose_spec.2
        have hdv := hK2.dv; have hyd := hK2.yd; have hvw := hK2.vw
        have b5 : ∀ (b : Nat) (o : Obj), W2.heap[b]? = some o → b < V → w4.heap[b]? = some o := fun b o hb hle => (hf4.same _ (by have := (Array.getElem?_eq_some_iff.1 hb).1; omega) (fun e => by have := hown _ e; omega)).trans ((b3.block _ (Array.getElem?_eq_some_iff.1 hb).1).trans hb)
        have v4 := b5 _ _ hv (by omega)
        have x4 : w4.cell? ⟨Y + 2, 0, none⟩ = some (Value.slice p8 k c8) := cell_box v4 rfl
        have f4 : w4.frozen? ⟨Y + 2, 0, none⟩ = false := free_box v4
        have x2 : W2.cell? ⟨Y + 2, 0, none⟩ = some (Value.slice p8 k c8) := cell_box hv rfl
        have hsz4 := hf4.low.size
        have hvec4 : ∀ y ∈ vs, VcAt w4 y ∧ w4.heap[y.b]? = W2.heap[y.b]? := fun y hy => by
          obtain ⟨cur, h1, _⟩ := (hK2.vec y hy).blk
          have h2 : w4.heap[y.b]? = W2.heap[y.b]? := (hf4.same _ (by have := (Array.getElem?_eq_some_iff.1 h1).1; omega) (fun e => by
            obtain ⟨cur', h1', _⟩ := own_blk hz.row e
            exact ne_type h1 h1' (by decide) rfl)).trans (b3.block _ (Array.getElem?_eq_some_iff.1 h1).1)
          exact ⟨(hK2.vec y hy).same h2, h2⟩
        have HFIN := hid (And.intro hX4 (And.intro v4 (And.intro hsz4 (And.intro hvec4 hf4))))
        have HB5 := hid b5; have HK2 := hid hK2; have HL2 := hid hL2; have HSM := hid hsm2; have HS2 := hid hs2; have HV2 := hid hv; have HB3 := hid b3; have HS3 := hid s3; have HOW := hid hown
        have HR := hid hr
        clear hX4 v4 hsz4 hvec4 hf4 b5 hK2 hL2 hsm2 hs2 hv b3 n3 s3 hown hr hz hx3 htk hlenv
        gi_wp2_with (first
          | (gi_at_builtin; refine wpListIn_append_run _ rfl _ _ _ rfl _ _ rfl rfl _ _ HR.out ?_; clear HR)
          | fail)
        obtain ⟨hX4, v4, hsz4, hvec4, hf4⟩ := HFIN.out
        have s4 := set_box (v := .slice p9 (k + 1) c9) v4
        have far4 : ∀ b, b ≠ Y + 2 → (w4.setCell ⟨Y + 2, 0, none⟩ (.slice p9 (k + 1) c9)).heap[b]? = w4.heap[b]? := fun b hb => set_far hb _
        have low4 : Below (Y + 2) w4 (w4.setCell ⟨Y + 2, 0, none⟩ (.slice p9 (k + 1) c9)) := (Below.refl _ _).setCell (p := ⟨Y + 2, 0, none⟩) (Nat.le_refl _) _
        have size4 : (w4.setCell ⟨Y + 2, 0, none⟩ (.slice p9 (k + 1) c9)).heap.size = w4.heap.size := by simp [World.setCell]
        generalize w4.setCell ⟨Y + 2, 0, none⟩ (.slice p9 (k + 1) c9) = W5 at s4 far4 low4 size4 ⊢
        have hs22 := HS2.out; have hs33 := HS3.out
        have l5' : W5.heap[D + 1]? = some (.loop { r with state := .busy }) := (far4 _ (by omega)).trans (HB5.out _ _ HL2.out (by omega))
        have K5 : GKz A2 (Y + 2) D vs V (k + 1) W5 := by
          have h := HK2.out
          refine ⟨⟨_, s4, hX4.keep (fun q hq => far4 _ (fun e => ?_)) (fun y hy => far4 _ (fun e => ?_))⟩, (far4 _ (by omega)).trans (HB5.out _ _ h.df (by omega)), fun y hy => (hvec4 y hy).1.same (far4 _ (fun e => ?_)), h.far, ((h.low.trans ((HB3.out.mono (by omega)).trans (hf4.below (n := Y + 2) (fun q hq => by have := HOW.out q hq; omega) (by omega)))).trans low4), h.yd, h.dv, by omega⟩
          · have := (own_blk hX4.row hq).choose_spec.2; omega
          · have := h.far y (List.mem_of_mem_take hy); omega
          · have := h.far y hy; omega
        refine ⟨l5', fun q h1 h2 h3 => ?_, ?_, .inl ⟨rfl, ⟨K5.fr (fr_one (D + 1) _), HK16.out⟩, ?_, HMIN.out⟩⟩
        · rw [World.putObj_heap_other (by omega), far4 _ (by omega), hf4.same q (by omega) (fun e => by have := HOW.out _ e; omega), HB3.out.block q (by omega), HSM.out _ (by omega)]
        · rw [show (W5.putObj (D + 1) (.loop { r with state := .ready, pending := none })).heap.size = W5.heap.size by simp [World.putObj]]
          omega
        · rw [loop_again hr1 hr2]
          exact World.putObj_heap_same (Array.getElem?_eq_some_iff.1 l5').1
    · rintro e W ⟨⟨v, rfl⟩, (⟨vs, V, hmin, ⟨hK, h16⟩, hLp, _⟩ | ⟨j1, j2, j3, j4, j5, vs, j6, j7⟩)⟩
      · refine ⟨⟨v, rfl⟩, hK.df, .inl ⟨hLp, ?_⟩⟩
        have hK3 := hK.fr (fr_one (W := W) (D + 1) (.loop { r with state := .exhausted }))
        generalize W.putObj (D + 1) (.loop { r with state := .exhausted }) = W3 at hK3 ⊢
        obtain ⟨v9, hv, hz⟩ := hK3.y0
        rw [List.take_length] at hz
        obtain ⟨p9, c9, hv9⟩ := hz.form
        subst hv9
        obtain ⟨e1, e2⟩ := HM1.out W3 hK3.low
        have x1 : W3.cell? ⟨Y, 0, none⟩ = some (.slice none 0 0) := cell_box e1 rfl
        have x2 : W3.cell? ⟨Y + 1, 0, none⟩ = some (.int .i64 0) := cell_box e2 rfl
        have f1 : W3.frozen? ⟨Y, 0, none⟩ = false := free_box e1
        have f2 : W3.frozen? ⟨Y + 1, 0, none⟩ = false := free_box e2
        have x9 : W3.cell? ⟨(Y + 2), 0, none⟩ = some (.slice p9 vs.length c9) := cell_box hv rfl
        have HK3 := hid hK3; have HZ := hid hz; have HMN := hid hmin; have HE1 := hid e1; have HE2 := hid e2; have H16 := hid h16
        clear hK hLp hK3 hz hmin hr1 hr2 hr3 hr4 hr5 hr6 hr7 k1 k2 k3 k4 hsd0 hlow0 hbox0 e1 e2 h16
        gi_wp2_with fail
        obtain ⟨g1, g2, g3, g4⟩ := two_sets (x := .slice p9 vs.length c9) (y := .int .i64 0) HE1.out HE2.out _ rfl
        generalize (W3.setCell ⟨Y, 0, none⟩ (.slice p9 vs.length c9)).setCell ⟨Y + 1, 0, none⟩ (.int .i64 0) = W5 at g1 g2 g3 g4 ⊢
        have hyd := HK3.out.yd; have hdv := HK3.out.dv
        have d5 : W5.heap[D]? = some (.deferred (some [])) := (g3 _ (by omega) (by omega)).trans HK3.out.df
        refine ⟨by simp, .inl ⟨_, _, rfl, run_takeDeferred d5, ?_⟩⟩
        refine ⟨_, results_two rfl rfl rfl (load23 ((World.putObj_heap_other (by omega)).trans g1)) (load24 ((World.putObj_heap_other (by omega)).trans g2)), ?_⟩
        have hDs := (Array.getElem?_eq_some_iff.1 d5).1
        refine ⟨?_, .inr ⟨H0.out, vs, HMN.out, .inr ⟨H16.out, _, rfl, ?_, fun x hx => ?_⟩⟩⟩
        · rw [HYE.out]
          exact ((HLOW.out W3 HK3.out.low).trans g4).trans ((fr_one D _).below (n := Y) (fun b e => by omega) (by omega))
        · rw [HYE.out]
          refine (HZ.out.keep (fun q hq => ?_) (fun x hx => ?_)).mono (by omega)
          · have := (own_blk HZ.out.row hq).choose_spec.2
            exact (World.putObj_heap_other (by omega)).trans (g3 _ (by omega) (by omega))
          · have := HK3.out.far x hx
            exact (World.putObj_heap_other (by omega)).trans (g3 _ (by omega) (by omega))
        · have := HK3.out.far x hx
          rw [HYE.out]
          omega
      · refine ⟨⟨v, rfl⟩, j1, .inr ⟨.ret, j2, ?_⟩⟩
        have m1 : (W.putObj (D + 1) (.loop { r with state := .exhausted, pending := some .ret })).heap[D]? = some (.deferred (some [])) := (World.putObj_heap_other (by omega)).trans j1
        have m3 : (W.putObj (D + 1) (.loop { r with state := .exhausted, pending := some .ret })).heap[Y]? = some (.cells #[.slice none 0 0] 23 (0, 0)) := (World.putObj_heap_other (by omega)).trans j3
        have m4 : (W.putObj (D + 1) (.loop { r with state := .exhausted, pending := some .ret })).heap[Y + 1]? = some (.cells #[.int .i64 2] 24 (0, 0)) := (World.putObj_heap_other (by omega)).trans j4
        have hDs := (Array.getElem?_eq_some_iff.1 j1).1
        have m5 : Below Y w (W.putObj (D + 1) (.loop { r with state := .exhausted, pending := some .ret })) := j5.trans ((fr_one (D + 1) _).below (n := Y) (fun b e => by omega) (by omega))
        generalize W.putObj (D + 1) (.loop { r with state := .exhausted, pending := some .ret }) = W4 at m1 m3 m4 m5 ⊢
        have HJ6 := hid j6; have HJ7 := hid j7
        clear j1 j2 j3 j4 j5 j6 j7 hr1 hr2 hr3 hr4 hr5 hr6 hr7 k1 k2 k3 k4 hsd0 hlow0 hbox0
        gi_wp2
        refine ⟨by simp, .inl ⟨_, _, rfl, run_takeDeferred m1, ?_⟩⟩
        refine ⟨_, results_two rfl rfl rfl (load23 ((World.putObj_heap_other (by omega)).trans m3)) (load24 ((World.putObj_heap_other (by omega)).trans m4)), ?_⟩
        have hD5 := (Array.getElem?_eq_some_iff.1 m1).1
        refine ⟨?_, .inr ⟨H0.out, vs, HJ6.out, .inl ⟨HJ7.out, rfl⟩⟩⟩
        rw [HYE.out]
        exact m5.trans ((fr_one D _).below (n := Y) (fun b e => by omega) (by omega))
  · have hne : (R != 0) = true := by simpa using h0
    have H0 := hid h0
    gi_wp2_with fail
    obtain ⟨g1, g2, g3, g4⟩ := two_sets (x := .slice none 0 0) (y := .int .i64 R) HN1.out HN2.out _ rfl
    refine ⟨_, results_two rfl rfl rfl (load23 g1) (load24 g2), ?_⟩
    exact ⟨HB2.out.trans g4, .inl ⟨by rw [HR.out]; exact H0.out, by rw [HR.out]⟩⟩
end Go.Proofs.Ytbdkogccjnmfoaa
