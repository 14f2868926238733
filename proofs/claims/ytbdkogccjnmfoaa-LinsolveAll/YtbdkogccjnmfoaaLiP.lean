/- Rows of vectors that a loop over All gathers; gone. -/
import Derived.Test.YtbdkogccjnmfoaaLiO
namespace Go.Proofs.Ytbdkogccjnmfoaa
open Go.RowKit Go.Shelf

attribute [local go_sem] Oper.semAt_some
/-- A row of vectors that a call has made. -/
structure XRow (w : World) (base : Nat) (v : Value) (vs : List Vc) : Prop where
  row : w.ownsRow base 27 1 v vs.length (vs.map vcV)
  vec : ∀ x ∈ vs, VcAt w x
theorem XRow.nil (w : World) (base : Nat) : XRow w base (.slice none 0 0) [] := ⟨World.ownsRow_nil _ _ _ _, by simp⟩
theorem XRow.keep {w w' : World} {base : Nat} {v : Value} {vs : List Vc} (h : XRow w base v vs) (hs : ∀ q, v.ownBlock = some q → w'.heap[q]? = w.heap[q]?) (ht : ∀ x ∈ vs, w'.heap[x.b]? = w.heap[x.b]?) : XRow w' base v vs :=
  ⟨own_same h.row hs, fun x hx => (h.vec x hx).same (ht x hx)⟩
theorem XRow.below {w w' : World} {base : Nat} {v : Value} {vs : List Vc} (h : XRow w base v vs) (hb : Below w.heap.size w w') : XRow w' base v vs :=
  h.keep (fun q hq => by obtain ⟨cur, h1, _⟩ := own_blk h.row hq; exact hb.block q (Array.getElem?_eq_some_iff.1 h1).1) (fun x hx => by obtain ⟨cur, h1, _⟩ := (h.vec x hx).blk; exact hb.block _ (Array.getElem?_eq_some_iff.1 h1).1)
theorem XRow.form {w : World} {base : Nat} {v : Value} {vs : List Vc} (h : XRow w base v vs) : ∃ q c, v = .slice q vs.length c := by
  rcases h.row.2 with ⟨h1, h2⟩ | ⟨g, cap, cur, h1, _⟩
  · exact ⟨none, 0, by rw [h1, h2]⟩
  · exact ⟨_, _, h1⟩
theorem own_mono {w : World} {base base' e size n : Nat} {v : Value} {xs : List Value} (h : w.ownsRow base e size v n xs) (hb : base' ≤ base) : w.ownsRow base' e size v n xs :=
  ⟨h.1, by
    rcases h.2 with h0 | ⟨g, cap, cur, h1, h2, h3⟩
    · exact .inl h0
    · exact .inr ⟨g, cap, cur, h1, Nat.le_trans hb h2, h3⟩⟩
theorem XRow.mono {w : World} {base base' : Nat} {v : Value} {vs : List Vc} (h : XRow w base v vs) (hb : base' ≤ base) : XRow w base' v vs := ⟨own_mono h.row hb, h.vec⟩
theorem info27 : (Try.prog.info? 27).map (fun i => (i.zero, i.size, i.bytes)) = some (some (.slice none 0 0), 1, 24) := by kernel_rfl
/-- A vector more. -/
theorem run_appX (ty base : Nat) (v : Value) (vs : List Vc) (x : Vc) (w : World) (hR : XRow w base v vs) (b : Nat) (hb : w.heap[b]? = some (.cells #[vcV x] 27 (0, 0))) (hx : VcAt w x) (hn : vs.length + 1 ≤ 1000000000000) (hbase : base ≤ w.heap.size) :
    ∃ v' w', (Builtin.append_ #[23, 23] ty #[v, .slice (some ⟨b, 0, none⟩) 1 1]).run Try.prog w = .ok v' w' ∧ XRow w' base v' (vs ++ [x]) ∧ Fr (fun q => v.ownBlock = some q) w w' := by
  obtain ⟨i0, hi0, hz0, hz1, hz2⟩ := info_parts info27
  obtain ⟨v', w', hr, h2, h3, _, h5⟩ := run_append_own_at (P := Try.prog) w base 23 ty 27 i0 _ 1 24 Try.underlying23 hi0 hz0 hz1 hz2 rfl (by decide) v vs.length (vs.map vcV) hR.row ⟨b, 0, none⟩ 1 1 [vcV x] rfl (fun j u hj => by
    match j, hj with
    | 0, hj => cases hj; exact cell_box hb rfl) (fun u hu => by rw [List.mem_singleton.1 hu]; rfl) (by unfold maxLen; omega) (by omega) hbase
  have hf := fr_grown h3
  have keep : ∀ y, VcAt w y → VcAt w' y := fun y hy => hy.same (by
    obtain ⟨cur, h1, _⟩ := hy.blk
    refine hf.same _ (Array.getElem?_eq_some_iff.1 h1).1 (fun e => ?_)
    obtain ⟨cur', h1', _⟩ := own_blk hR.row e
    exact ne_type h1 h1' (by decide) rfl)
  refine ⟨v', w', hr, ⟨by rw [List.length_append, List.map_append]; exact h2, fun y hy => ?_⟩, hf⟩
  rcases List.mem_append.1 hy with hy | hy
  · exact keep y (hR.vec y hy)
  · rw [List.mem_singleton.1 hy]
    exact keep x hx
theorem set_box {W : World} {b : Nat} {u v : Value} {t : TypeId} (h : W.heap[b]? = some (.cells #[u] t (0, 0))) : (W.setCell ⟨b, 0, none⟩ v).heap[b]? = some (.cells #[v] t (0, 0)) := block_set h v
theorem wpListIn_append_run {F : Fence} {n : Nat} {P : Program} (w : World) {ops : Array Oper} {rest : List Oper} {o : Oper} {a : Act} {Q : Exit → Act → World → Prop} (hg : o.guard = none) (s x : Operand) (t : TypeId)
    (hop : o.op = .call { callee := .builtin .append, args := #[s, x], argTypes := #[t, t] }) (vs vx : Value) (hs : a.eval s = vs) (hx : a.eval x = vx)
    (v' : Value) (w' : World) (hr : (Builtin.append_ #[t, t] o.type #[vs, vx]).run P w = .ok v' w') (h : wpListIn F n P ops Q rest (a.put o.dst v') w') : wpListIn F n P ops Q (o :: rest) a w := by
  refine wpListIn_plain hg fun K hK' => ?_
  unfold Oper.wpIn
  refine ⟨?_, ?_⟩
  · simp [Oper.about, hop, resolve, Target.leads, Sem.run_pure]
  · rw [Oper.semAt_plain F _ _ (by rw [hop]; intro c hc'; cases hc')]
    simp [execOp, hop, resolve, invoke, builtin, hs, hx, hr, Result.andThen]
    exact hK' _ _ h
/-- What gone keeps as it goes: a box with the row, the deferred list. -/
structure GK (w : World) (Y D : Nat) (vs : List Vc) (V k : Nat) (W : World) : Prop where
  y0 : ∃ v, W.heap[Y]? = some (.cells #[v] 23 (0, 0)) ∧ XRow W V v (vs.take k)
  df : W.heap[D]? = some (.deferred (some []))
  vec : ∀ x ∈ vs, VcAt W x
  far : ∀ x ∈ vs, D + 2 ≤ x.b
  low : Below Y w W
  yd : Y < D
  dv : D + 2 ≤ V
  vw : V ≤ W.heap.size
theorem GK.fr {w : World} {Y D : Nat} {vs : List Vc} {V k : Nat} {W W' : World} (h : GK w Y D vs V k W) (hf : Fr (fun q => q = D + 1) W W') : GK w Y D vs V k W' := by
  have hyd := h.yd; have hdv := h.dv; have hvw := h.vw
  have keep : ∀ {b : Nat} {o : Obj}, W.heap[b]? = some o → b ≠ D + 1 → W'.heap[b]? = some o := fun hb hle => (hf.same _ (Array.getElem?_eq_some_iff.1 hb).1 hle).trans hb
  obtain ⟨v, hv, hz⟩ := h.y0
  have hvec : ∀ x ∈ vs, W'.heap[x.b]? = W.heap[x.b]? := fun x hx => by
    obtain ⟨cur, h1, _⟩ := (h.vec x hx).blk
    exact hf.same _ (Array.getElem?_eq_some_iff.1 h1).1 (by have := h.far x hx; omega)
  refine ⟨⟨v, keep hv (by omega), hz.keep (fun q hq => ?_) (fun x hx => hvec x (List.mem_of_mem_take hx))⟩, keep h.df (by omega), fun x hx => (h.vec x hx).same (hvec x hx), h.far, h.low.trans (hf.below (fun q hq => by omega) (by omega)), h.yd, h.dv, Nat.le_trans hvw hf.low.size⟩
  obtain ⟨cur, h1, h2⟩ := own_blk hz.row hq
  exact hf.same _ (Array.getElem?_eq_some_iff.1 h1).1 (by omega)
theorem two_alloc (W1 : World) (r : Loop) {D : Nat} (hD : W1.heap.size = D) : ((W1.alloc (.deferred (some []))).alloc (.loop r)).heap[D]? = some (.deferred (some [])) ∧ ((W1.alloc (.deferred (some []))).alloc (.loop r)).heap[D + 1]? = some (.loop r) ∧ Below D W1 ((W1.alloc (.deferred (some []))).alloc (.loop r)) ∧ ((W1.alloc (.deferred (some []))).alloc (.loop r)).heap.size = D + 2 := by
  subst hD
  have b1 := alloc_below0 W1 (.deferred (some []))
  have n1 := World.alloc_heap_new W1 (.deferred (some []))
  have s1 := World.size_alloc W1 (.deferred (some []))
  generalize W1.alloc (.deferred (some [])) = A at b1 n1 s1 ⊢
  have b2 := alloc_below0 A (.loop r)
  have n2 := World.alloc_heap_new A (.loop r)
  have s2 := World.size_alloc A (.loop r)
  rw [s1] at b2 n2 s2
  exact ⟨(b2.block _ (by omega)).trans n1, n2, b1.trans (b2.mono (by omega)), s2⟩
theorem results_tmp {fn : Func} {t : Tmp} (h : fn.results = #[.tmp t]) (P : Program) (tmps : Array Value) (w : World) : (results fn tmps).run P w = .ok (tmps.getD t undef) w := by
  simp [results, h]
/-- How gone ends. -/
def GoneEnd (a b : List Int) (w : World) (e : Ending) (w' : World) : Prop := Below w.heap.size w w' ∧ ((chkE a b ≠ 0 ∧ e = .returned (.slice none 0 0)) ∨ (chkE a b = 0 ∧ ∃ v vs, e = .returned v ∧ IsMin (pbOf a b) (vs.map Vc.l) ∧ XRow w' w.heap.size v vs ∧ ∀ x ∈ vs, w.heap.size ≤ x.b))
theorem nil36 (x : Array Value) (w : World) : (binOp .eql 37 (.func (.func 36) #[] x) .nilFunc).run Try.prog w = .ok (.bool false) w := by kernel_rfl
theorem nil35 (x : Array Value) (w : World) : (binOp .eql 37 (.func (.func 35) #[] x) .nilFunc).run Try.prog w = .ok (.bool false) w := by kernel_rfl
set_option maxRecDepth 100000 in
set_option maxHeartbeats 8000000 in
theorem gone_any (p : Option Addr) (c : Nat) (a : List Int) (q : Option Addr) (d : Nat) (b : List Int) (w : World) (hA : IntsAt w p a) (hB : IntsAt w q b) :
    Calls Try.prog 15 #[.slice p a.length c, .slice q b.length d] w (GoneEnd a b w) := by
  refine (callsIn_wide (n := 12)).1 ?_
  obtain ⟨A1, hA1⟩ : ∃ W, W = w.alloc (.cells #[.slice none 0 0] 23) := ⟨_, rfl⟩
  have b1 := alloc_below0 w (.cells #[.slice none 0 0] 23)
  have n1 := World.alloc_heap_new w (.cells #[.slice none 0 0] 23)
  have s1 := World.size_alloc w (.cells #[.slice none 0 0] 23)
  rw [← hA1] at b1 n1 s1
  have HAL := hid (all_any p c a q d b A1 (hA.below b1) (hB.below b1))
  have HA1 := hid hA1; have HB1 := hid b1; have HN1 := hid n1; have HS1 := hid s1
  clear hA hB hA1 b1 n1 s1
  refine callsIn_of_wp_marks Try.func15 rfl trivial ?_ rfl
  simp only [Try.ntmps15, List.size_toArray, List.length_cons, List.length_nil, Nat.reduceAdd, Nat.reduceSub, Array.replicate_succ, Array.replicate_zero, List.push_toArray, List.append_toArray, List.nil_append, List.cons_append]
  gi_wp2_with fail
  rw [← HA1.out]
  refine ⟨trivial, ?_⟩
  refine (callsIn_wide.2 HAL.out).mono ?_
  rintro e W1 ⟨hb2, (⟨h0, rfl⟩ | ⟨h0, B0, rfl, hsd⟩)⟩
  · have n0 := nil35 #[] W1
    have H0 := hid h0; have HB2 := hid hb2
    clear h0 hb2 HAL
    gi_wp2_with fail
    obtain ⟨D, hD⟩ : ∃ D, W1.heap.size = D := ⟨_, rfl⟩
    refine range_law rfl (by omega) (gf := 35) (lb := #[]) rfl trivial (enters_of Try.func35 (by kernel_rfl) rfl) ?_
    intro r hr1 hr2 hr3 hr4 hr5 hr6 hr7
    rw [hD]
    obtain ⟨k1, k2, k3, k4⟩ := two_alloc W1 r hD
    generalize (W1.alloc (.deferred (some []))).alloc (.loop r) = W0 at k1 k2 k3 k4 ⊢
    refine (none_in _ _ W0).mono ?_
    rintro e W ⟨⟨v, rfl⟩, rfl⟩
    refine ⟨⟨v, rfl⟩, k1, .inl ⟨k2, ?_⟩⟩
    have hYD : w.heap.size < D := by have := HB2.out.size; have := HS1.out; omega
    have y3 : (W.putObj (D + 1) (.loop { r with state := .exhausted })).heap[w.heap.size]? = some (.cells #[.slice none 0 0] 23 (0, 0)) := (World.putObj_heap_other (by omega)).trans ((k3.block _ (by omega)).trans ((HB2.out.block _ (by have := HS1.out; omega)).trans HN1.out))
    have d3 : (W.putObj (D + 1) (.loop { r with state := .exhausted })).heap[D]? = some (.deferred (some [])) := (World.putObj_heap_other (by omega)).trans k1
    have l3 : Below w.heap.size w (W.putObj (D + 1) (.loop { r with state := .exhausted })) := (HB1.out.trans ((HB2.out.mono (by have := HS1.out; omega)).trans (k3.mono (by omega)))).trans ((fr_one (D + 1) _).below (fun b e => by omega) (by omega))
    generalize W.putObj (D + 1) (.loop { r with state := .exhausted }) = W3 at y3 d3 l3 ⊢
    have x3 := cell_box y3 (i := 0) rfl
    clear hr1 hr2 hr3 hr4 hr5 hr6 hr7
    gi_wp2_with fail
    refine ⟨by simp, .inl ⟨_, _, rfl, run_takeDeferred d3, ?_⟩⟩
    refine ⟨_, results_tmp rfl _ _ _, ?_⟩
    have hD3 := (Array.getElem?_eq_some_iff.1 d3).1
    exact ⟨l3.trans ((fr_one D _).below (fun b e => by omega) (by omega)), .inl ⟨H0.out, rfl⟩⟩
  · have n0 := nil36 #[.pointer (some ⟨B0, 0, none⟩)] W1
    have H0 := hid h0; have HB2 := hid hb2; have HSD := hid hsd
    obtain ⟨l5, l6, _, _⟩ := chk_zero h0
    clear h0 hb2 hsd HAL
    gi_wp2_with fail
    obtain ⟨D, hD⟩ : ∃ D, W1.heap.size = D := ⟨_, rfl⟩
    have hYD : w.heap.size < D := by have := HB2.out.size; have := HS1.out; omega
    obtain ⟨Y, hY⟩ : ∃ Y, w.heap.size = Y := ⟨_, rfl⟩
    have HYE := hid hY
    rw [hY] at hYD ⊢
    refine range_law rfl (by omega) (gf := 36) (lb := #[.pointer (some ⟨B0, 0, none⟩)]) rfl trivial (enters_of Try.func36 (by kernel_rfl) rfl) ?_
    intro r hr1 hr2 hr3 hr4 hr5 hr6 hr7
    rw [hD]
    obtain ⟨k1, k2, k3, k4⟩ := two_alloc W1 r hD
    have hsd0 : SdAt (fun b => b < ((W1.alloc (.deferred (some []))).alloc (.loop r)).heap.size) ((W1.alloc (.deferred (some []))).alloc (.loop r)) B0 (pbOf a b) := (HSD.out.same (fun q hq => k3.block q (by omega))).mono (fun q hq => by omega)
    have hlow0 : Below Y w ((W1.alloc (.deferred (some []))).alloc (.loop r)) := by
      rw [← HYE.out]
      exact HB1.out.trans ((HB2.out.mono (by have := HS1.out; omega)).trans (k3.mono (by omega)))
    have hbox0 : ((W1.alloc (.deferred (some []))).alloc (.loop r)).heap[Y]? = some (.cells #[.slice none 0 0] 23 (0, 0)) := by
      rw [← HYE.out]
      exact (k3.block _ (by omega)).trans ((HB2.out.block _ (by have := HS1.out; omega)).trans HN1.out)
    generalize (W1.alloc (.deferred (some []))).alloc (.loop r) = W0 at k1 k2 k3 k4 hsd0 hlow0 hbox0 ⊢
    have hbig := Nat.le_trans (res_len (pbOf a b) 13 root) (siz_pow (p := pbOf a b) l5 l6 13 root)
    simp only [Nat.reducePow] at hbig
    refine (all_in 7 (D + 1) B0 (pbOf a b) 6 6 (pb_ok H0.out) (by omega) (by omega) l5 l6
      (fun vs V k W => GK w Y D vs V k W ∧ W.heap[D + 1]? = some (.loop r) ∧ IsMin (pbOf a b) (vs.map Vc.l)) (fun _ => False) W0 hsd0 ?_ ?_).mono ?_
    · intro vs W2 hb hmin hvec _
      refine ⟨⟨⟨_, (hb.block _ (by omega)).trans hbox0, by rw [List.take_zero]; exact XRow.nil _ _⟩, (hb.block _ (by omega)).trans k1, fun x hx => (hvec x hx).2, fun x hx => by have := (hvec x hx).1; omega, hlow0.trans (hb.mono (by omega)), hYD, by have := hb.size; omega, Nat.le_refl _⟩, (hb.block _ (by omega)).trans k2, hmin⟩
    · rintro mm vs V k W x hxk ⟨hK, hLp, hmin⟩ hVW hWV
      refine yield_by hr5 hr6 hr3 hr4 hLp hr1 rfl hr7 ?_
      have HK := hid hK; have HLP := hid hLp; have HXK := hid hxk; have HMIN := hid hmin
      have HBG := hid hbig
      have hs0 := k4
      clear hK hLp hxk hmin hr3 hr4 hr5 hr6 k1 k2 k3 hsd0 hlow0 hbox0 hbig
      simp only [List.zip_toArray, List.zip_cons_cons, List.zip_nil_right, List.foldl_toArray, List.foldl_cons, List.foldl_nil, List.setIfInBounds_toArray, List.set_cons_succ, List.set_cons_zero]
      gi_wp2
      refine ⟨HLP.out, ?_⟩
      have hlt : D + 1 < W.heap.size := (Array.getElem?_eq_some_iff.1 HLP.out).1
      have hK2 := HK.out.fr (fr_one (W := W) (D + 1) (.loop { r with state := .busy }))
      have hL2 := World.putObj_heap_same (w := W) (o := .loop { r with state := .busy }) hlt
      have hsm2 : ∀ b, b ≠ D + 1 → (W.putObj (D + 1) (.loop { r with state := .busy })).heap[b]? = W.heap[b]? := fun b hb => World.putObj_heap_other hb
      have hs2 : (W.putObj (D + 1) (.loop { r with state := .busy })).heap.size = W.heap.size := by simp [World.putObj]
      generalize W.putObj (D + 1) (.loop { r with state := .busy }) = W2 at hK2 hL2 hsm2 hs2 ⊢
      obtain ⟨v, hv, hz⟩ := hK2.y0
      have hkl : k < vs.length := (List.getElem?_eq_some_iff.1 HXK.out).1
      have hxv : x ∈ vs := List.mem_of_getElem? HXK.out
      have htk : vs.take k ++ [x] = vs.take (k + 1) := by rw [List.take_add_one, HXK.out]; rfl
      have hlk : (vs.take k).length = k := by rw [List.length_take]; omega
      have b3 := alloc_below0 W2 (.cells #[vcV x] 27)
      have n3 := World.alloc_heap_new W2 (.cells #[vcV x] 27)
      have s3 := World.size_alloc W2 (.cells #[vcV x] 27)
      have hx3 : VcAt (W2.alloc (.cells #[vcV x] 27)) x := (hK2.vec x hxv).same (b3.block _ (by obtain ⟨cur, h1, _⟩ := (hK2.vec x hxv).blk; exact (Array.getElem?_eq_some_iff.1 h1).1))
      have hlenv : vs.length ≤ 13060694016 := by have h := HMIN.out.perm.length_eq; rw [List.length_map] at h; have := HBG.out; omega
      obtain ⟨v', w4, hr, hX4, hf4⟩ := run_appX 23 V v (vs.take k) x (W2.alloc (.cells #[vcV x] 27)) (hz.below b3) W2.heap.size n3 hx3 (by omega) (by have := hK2.vw; omega)
      rw [htk] at hX4
      obtain ⟨p9, c9, hv9⟩ := hX4.form
      rw [show (vs.take (k + 1)).length = k + 1 by rw [List.length_take]; omega] at hv9
      subst hv9
      have hown : ∀ q, v.ownBlock = some q → V ≤ q := fun q hq => (own_blk hz.row hq).choose_spec.2
      have hdv := hK2.dv; have hyd := hK2.yd; have hvw := hK2.vw
      have b5 : ∀ (b : Nat) (o : Obj), W2.heap[b]? = some o → b < V → w4.heap[b]? = some o := fun b o hb hle => (hf4.same _ (by have := (Array.getElem?_eq_some_iff.1 hb).1; omega) (fun e => by have := hown _ e; omega)).trans ((b3.block _ (Array.getElem?_eq_some_iff.1 hb).1).trans hb)
      have v4 := b5 _ _ hv (by omega)
      have x4 : w4.cell? ⟨Y, 0, none⟩ = some v := cell_box v4 rfl
      have f4 : w4.frozen? ⟨Y, 0, none⟩ = false := free_box v4
      have x2 : W2.cell? ⟨Y, 0, none⟩ = some v := cell_box hv rfl
      have hsz4 := hf4.low.size
      have hvec4 : ∀ y ∈ vs, VcAt w4 y ∧ w4.heap[y.b]? = W2.heap[y.b]? := fun y hy => by
        obtain ⟨cur, h1, _⟩ := (hK2.vec y hy).blk
        have h2 : w4.heap[y.b]? = W2.heap[y.b]? := (hf4.same _ (by have := (Array.getElem?_eq_some_iff.1 h1).1; omega) (fun e => by
          obtain ⟨cur', h1', _⟩ := own_blk hz.row e
          exact ne_type h1 h1' (by decide) rfl)).trans (b3.block _ (Array.getElem?_eq_some_iff.1 h1).1)
        exact ⟨(hK2.vec y hy).same h2, h2⟩
      have HFIN := hid (And.intro hX4 (And.intro v4 (And.intro hsz4 (And.intro hvec4 hf4))))
      have HB5 := hid b5; have HK2 := hid hK2; have HL2 := hid hL2; have HSM := hid hsm2; have HS2 := hid hs2; have HV2 := hid hv; have HB3 := hid b3; have HS3 := hid s3; have HOW := hid hown
      have HR := hid hr
      clear hX4 v4 hsz4 hvec4 hf4 b5 hK2 hL2 hsm2 hs2 hv b3 n3 s3 hown hr hz hx3 htk hlenv
      gi_wp2_with (first
        | (gi_at_builtin; refine wpListIn_append_run _ rfl _ _ _ rfl _ _ rfl rfl _ _ HR.out ?_; clear HR)
        | fail)
      obtain ⟨hX4, v4, hsz4, hvec4, hf4⟩ := HFIN.out
      have s4 := set_box (v := .slice p9 (k + 1) c9) v4
      have far4 : ∀ b, b ≠ Y → (w4.setCell ⟨Y, 0, none⟩ (.slice p9 (k + 1) c9)).heap[b]? = w4.heap[b]? := fun b hb => set_far hb _
      have low4 : Below Y w4 (w4.setCell ⟨Y, 0, none⟩ (.slice p9 (k + 1) c9)) := (Below.refl _ _).setCell (p := ⟨Y, 0, none⟩) (Nat.le_refl _) _
      have size4 : (w4.setCell ⟨Y, 0, none⟩ (.slice p9 (k + 1) c9)).heap.size = w4.heap.size := by simp [World.setCell]
      generalize w4.setCell ⟨Y, 0, none⟩ (.slice p9 (k + 1) c9) = W5 at s4 far4 low4 size4 ⊢
      have hs22 := HS2.out; have hs33 := HS3.out
      have l5' : W5.heap[D + 1]? = some (.loop { r with state := .busy }) := (far4 _ (by omega)).trans (HB5.out _ _ HL2.out (by omega))
      have K5 : GK w Y D vs V (k + 1) W5 := by
        have h := HK2.out
        refine ⟨⟨_, s4, hX4.keep (fun q hq => far4 _ (fun e => ?_)) (fun y hy => far4 _ (fun e => ?_))⟩, (far4 _ (by omega)).trans (HB5.out _ _ h.df (by omega)), fun y hy => (hvec4 y hy).1.same (far4 _ (fun e => ?_)), h.far, ((h.low.trans ((HB3.out.mono (by omega)).trans (hf4.below (n := Y) (fun q hq => by have := HOW.out q hq; omega) (by omega)))).trans low4), h.yd, h.dv, by omega⟩
        · have := (own_blk hX4.row hq).choose_spec.2; omega
        · have := h.far y (List.mem_of_mem_take hy); omega
        · have := h.far y hy; omega
      refine ⟨l5', fun q h1 h2 h3 => ?_, ?_, .inl ⟨rfl, K5.fr (fr_one (D + 1) _), ?_, HMIN.out⟩⟩
      · rw [World.putObj_heap_other (by omega), far4 _ (by omega), hf4.same q (by omega) (fun e => by have := HOW.out _ e; omega), HB3.out.block q (by omega), HSM.out _ (by omega)]
      · rw [show (W5.putObj (D + 1) (.loop { r with state := .ready, pending := none })).heap.size = W5.heap.size by simp [World.putObj]]
        omega
      · rw [loop_again hr1 hr2]
        exact World.putObj_heap_same (Array.getElem?_eq_some_iff.1 l5').1
    · rintro e W ⟨⟨v, rfl⟩, (⟨vs, V, hmin, hK, hLp, _⟩ | h)⟩
      · refine ⟨⟨v, rfl⟩, hK.df, .inl ⟨hLp, ?_⟩⟩
        have hK3 := hK.fr (fr_one (W := W) (D + 1) (.loop { r with state := .exhausted }))
        generalize W.putObj (D + 1) (.loop { r with state := .exhausted }) = W3 at hK3 ⊢
        obtain ⟨v9, hv, hz⟩ := hK3.y0
        rw [List.take_length] at hz
        have x9 : W3.cell? ⟨Y, 0, none⟩ = some v9 := cell_box hv rfl
        have HK3 := hid hK3; have HZ := hid hz; have HMN := hid hmin
        clear hK hLp hK3 hz hmin hr1 hr2 hr3 hr4 hr5 hr6 hr7 k1 k2 k3 k4 hsd0 hlow0 hbox0
        gi_wp2_with fail
        refine ⟨by simp, .inl ⟨_, _, rfl, run_takeDeferred HK3.out.df, ?_⟩⟩
        refine ⟨_, results_tmp rfl _ _ _, ?_⟩
        have hDs := (Array.getElem?_eq_some_iff.1 HK3.out.df).1
        have hyd := HK3.out.yd; have hdv := HK3.out.dv
        refine ⟨?_, .inr ⟨H0.out, _, vs, rfl, HMN.out, ?_, fun x hx => ?_⟩⟩
        · rw [HYE.out]
          exact HK3.out.low.trans ((fr_one D _).below (n := Y) (fun b e => by omega) (by omega))
        · rw [HYE.out]
          refine (HZ.out.keep (fun q hq => ?_) (fun x hx => ?_)).mono (by omega)
          · have := (own_blk HZ.out.row hq).choose_spec.2
            exact World.putObj_heap_other (by omega)
          · have := HK3.out.far x hx
            exact World.putObj_heap_other (by omega)
        · have := HK3.out.far x hx
          rw [HYE.out]
          omega
      · exact h.elim
end Go.Proofs.Ytbdkogccjnmfoaa
