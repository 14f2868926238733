/- A call of both agendas: they are gone through. -/
import Derived.Test.YtchjdpmgocapjaaAgOp1
namespace Go.Proofs.Ytchjdpmgocapjaa
open Go.RowKit Go.Shelf

attribute [local go_sem] Oper.semAt_some
/-- The loop's memory behind k rounds: the count's box. -/
structure JO (W1 : World) (Bn D : Nat) (r : Loop) (V k : Nat) (W : World) : Prop where
  fr : Fr (fun b => b = Bn ∨ b = D + 1) W1 W
  lp : W.heap[D + 1]? = some (.loop r)
  v1 : W1.heap.size ≤ V
  bx : W.heap[Bn]? = some (.cells #[.int .i64 k] 3 (0, 0))
theorem JO.next {W1 : World} {Bn D : Nat} {r rb : Loop} {V k : Nat} {W : World} (h : JO W1 Bn D r V k W) (hBD : Bn < D) (hVW : V ≤ W.heap.size) (W5 : World) (h5 : W5 = (W.putObj (D + 1) (.loop rb)).setCell ⟨Bn, 0, none⟩ (.int .i64 ((k : Int) + 1))) :
    W5.heap[D + 1]? = some (.loop rb) ∧ W5.heap[Bn]? = some (.cells #[.int .i64 ((k : Int) + 1)] 3 (0, 0)) ∧ ∀ r', (∀ b, b < V → b ≠ Bn → b ≠ D + 1 → (W5.putObj (D + 1) (.loop r')).heap[b]? = W.heap[b]?) ∧ V ≤ (W5.putObj (D + 1) (.loop r')).heap.size ∧ JO W1 Bn D r' V (k + 1) (W5.putObj (D + 1) (.loop r')) := by
  have hlt : D + 1 < W.heap.size := (Array.getElem?_eq_some_iff.1 h.lp).1
  have hsb : (W.putObj (D + 1) (.loop rb)).heap.size = W.heap.size := by simp [World.putObj]
  have hf : Fr (fun b => b = Bn) (W.putObj (D + 1) (.loop rb)) W5 := by rw [h5]; exact fr_set _ _ _ _
  have s5 : W.heap.size ≤ W5.heap.size := by have := hf.low.size; omega
  have v1 := h.v1
  have kb : (W.putObj (D + 1) (.loop rb)).heap[Bn]? = some (.cells #[.int .i64 k] 3 (0, 0)) := (World.putObj_heap_other (by omega)).trans h.bx
  have b5 : W5.heap[Bn]? = some (.cells #[.int .i64 ((k : Int) + 1)] 3 (0, 0)) := by rw [h5]; exact block_set kb _
  have lp5 : W5.heap[D + 1]? = some (.loop rb) := (hf.same _ (by omega) (by omega)).trans (World.putObj_heap_same hlt)
  refine ⟨lp5, b5, fun r' => ?_⟩
  have s6 : (W5.putObj (D + 1) (.loop r')).heap.size = W5.heap.size := by simp [World.putObj]
  have keep : ∀ b, b < V → b ≠ Bn → b ≠ D + 1 → (W5.putObj (D + 1) (.loop r')).heap[b]? = W.heap[b]? := fun b h1 h2 h3 => by
    rw [World.putObj_heap_other h3, hf.same b (by omega) h2, World.putObj_heap_other h3]
  refine ⟨keep, by omega, ⟨⟨?_, fun b hb1 hb2 => ?_⟩, World.putObj_heap_same (by omega), v1, ?_⟩⟩
  · exact ((h.fr.low.trans (fr_one (W := W) (D + 1) (.loop rb)).low).trans hf.low).trans (fr_one (W := W5) (D + 1) (.loop r')).low
  · exact (keep b (by omega) (fun e => hb2 (.inl e)) (fun e => hb2 (.inr e))).trans (h.fr.same b hb1 hb2)
  · rw [World.putObj_heap_other (by omega), b5]
    simp
theorem OW.fin2 {w0 w : World} {F0 G0 : Nat → Prop} {A B bo br D : Nat} {wh : Bool} {k x wt most : Int} {F G : Nat → Prop} {l' : Int} {L' : List Th} {o : Obj} (h : OW w0 w F0 G0 A B bo br wh k x wt most l' L' l' L' F G) (hD : D ≠ br ∧ ¬ F D ∧ ¬ G D ∧ w0.heap.size ≤ D) (W : World) (hW : W = (w.setCell ⟨br, 0, none⟩ (.bool true)).putObj D o) : W.heap[br]? = some (.cells #[.bool true] 4 (0, 0)) ∧ TwEnd w0 W A B most l' L' F0 G0 := by
  have hf : Fr (fun q => q = br ∨ q = D) w W := by rw [hW]; exact ((fr_set _ _ _ _).mono (fun q hq => .inl hq)).trans ((fr_one _ _).mono (fun q hq => .inr hq))
  refine ⟨by rw [hW, World.putObj_heap_other (fun e => hD.1 e.symm)]; exact block_set h.r (.bool true), F, G, ⟨h.a.fr hf (fun q hq e => ?_), h.b.fr hf (fun q hq e => ?_), h.ab⟩, fr_up h.fr hf (fun q hq => .inr ?_), h.fa, h.ga⟩
  · rcases e with e | e
    · exact h.far.2.1 (by rw [← e]; exact hq)
    · exact hD.2.1 (by rw [← e]; exact hq)
  · rcases e with e | e
    · exact h.far.2.2.2 (by rw [← e]; exact hq)
    · exact hD.2.2.1 (by rw [← e]; exact hq)
  · rcases hq with e | e
    · rw [e]; exact h.ge.2
    · rw [e]; exact hD.2.2.2
set_option maxRecDepth 100000 in
set_option maxHeartbeats 8000000 in
theorem one_all {w : World} {A B : Nat} {most last : Int} {L : List Th} {F G : Nat → Prop} (h : Tw w A B most last L F G) (wh : Bool) (x wt : Int) : Calls Try.prog 17 #[.pointer (some ⟨A, 0, none⟩), .pointer (some ⟨B, 0, none⟩), opV wh 4 x wt] w fun e w' => e = .returned (.bool true) ∧ TwEnd w w' A B most last L F G := by
  refine (callsIn_wide (n := 20)).1 ?_
  refine callsIn_of_wp_marks Try.func17 rfl trivial (wpIn_wide.2 ?_) rfl
  simp only [Try.ntmps17, List.size_toArray, List.length_cons, List.length_nil, Nat.reduceAdd, Nat.reduceSub, Array.replicate_succ, Array.replicate_zero, List.push_toArray, List.append_toArray, List.nil_append, List.cons_append]
  have HO := hid (ow_start (wh := wh) (k := 4) (x := x) (wt := wt) h _ rfl)
  obtain ⟨W, hW⟩ : ∃ W, W = (w.alloc (.cells #[.bool wh, .int .i64 4, .int .i64 x, .int .i64 wt] 46)).alloc (.cells #[.bool false] 4) := ⟨_, rfl⟩
  rw [← hW] at HO
  have k1 : W.cell? ⟨w.heap.size, 1, none⟩ = some (.int .i64 4) := cell_box HO.out.o rfl
  have hR := h.a.rise.1
  have HLB := hid h.a.len
  have HAL := hid (all_len L hR)
  have HRA := hid (rall_any HO.out.b hR)
  clear h hR
  unfold opV
  go_upto_region 1 with fail
  rw [← hW]
  clear hW
  go_wp2_with fail
  refine HRA.out.mono ?_
  rintro e w1 ⟨p, c, rfl, hT1, hb1, hg1⟩
  have hO1 := HO.out.below hb1
  -- the boxes: what is wanted, the count
  have bb := alloc_below0 w1 (.cells #[.slice p L.length c] 48)
  have nb := World.alloc_heap_new w1 (.cells #[.slice p L.length c] 48)
  have zb := World.size_alloc w1 (.cells #[.slice p L.length c] 48)
  have bn := alloc_below0 (w1.alloc (.cells #[.slice p L.length c] 48)) (.cells #[.int .i64 0] 3)
  have nn := World.alloc_heap_new (w1.alloc (.cells #[.slice p L.length c] 48)) (.cells #[.int .i64 0] 3)
  have zn := World.size_alloc (w1.alloc (.cells #[.slice p L.length c] 48)) (.cells #[.int .i64 0] 3)
  obtain ⟨Bw, hBw⟩ : ∃ b, w1.heap.size = b := ⟨_, rfl⟩
  have HBW := hid hBw
  have HT1 := hid hT1; have HO1 := hid hO1
  rw [hBw] at nb zb bb
  rw [zb] at nn zn bn
  clear hT1 hb1 hg1 hO1 HRA HO
  go_wp2_with fail
  have low2 : Below Bw w1 ((w1.alloc (.cells #[.slice p L.length c] 48)).alloc (.cells #[.int .i64 0] 3)) := bb.trans (bn.mono (by omega))
  have wbx := (bn.block Bw (by omega)).trans nb
  generalize (w1.alloc (.cells #[.slice p L.length c] 48)).alloc (.cells #[.int .i64 0] 3) = W2 at bn nn zn low2 wbx ⊢
  refine (allv_any A W2).mono ?_
  rintro e w5 ⟨rfl, h5⟩
  have hb5 := alloc_below0 W2 (.cells #[.pointer (some ⟨A, 0, none⟩)] 38)
  have n5 := World.alloc_heap_new W2 (.cells #[.pointer (some ⟨A, 0, none⟩)] 38)
  have z5 := World.size_alloc W2 (.cells #[.pointer (some ⟨A, 0, none⟩)] 38)
  rw [← h5] at hb5 n5 z5
  clear h5
  have hfn : (binOp .eql 55 (.func (.func 39) #[] #[.pointer (some ⟨W2.heap.size, 0, none⟩)]) .nilFunc).run Try.prog w5 = .ok (.bool false) w5 := rfl
  rw [zn] at z5 n5 hfn ⊢
  have lo5 : Below Bw w1 w5 := low2.trans (hb5.mono (by omega))
  have HBA := hid n5; have HZ5 := hid z5; have HLO := hid lo5
  have HWB := hid (below_blk hb5 wbx); have HBN := hid (below_blk hb5 nn)
  clear bb nb zb bn nn zn low2 wbx hb5 n5 z5 lo5 hBw
  go_wp2_with fail
  refine (wpIn_wide (n := 20)).1 ?_
  refine range_law (n := 20) rfl (by omega) (gf := 39) (lb := #[.pointer (some ⟨Bw + 1 + 1, 0, none⟩)]) rfl trivial (enters_of Try.func39 (by kernel_rfl) rfl) ?_
  intro r hr1 hr2 hr3 hr4 hr5 hr6 hr7
  have c1 := alloc_below0 w5 (.deferred (some []))
  have d1 := World.alloc_heap_new w5 (.deferred (some []))
  have e1 := World.size_alloc w5 (.deferred (some []))
  generalize w5.alloc (.deferred (some [])) = w6 at c1 d1 e1 ⊢
  have c2 := alloc_below0 w6 (.loop r)
  have d2 := World.alloc_heap_new w6 (.loop r)
  have e2 := World.size_alloc w6 (.loop r)
  generalize w6.alloc (.loop r) = W1 at c2 d2 e2 ⊢
  rw [HZ5.out] at e1 d1 ⊢
  rw [e1] at e2 d2
  have lo15 : Below w5.heap.size w5 W1 := c1.trans (c2.mono (by rw [e1, HZ5.out]; omega))
  have df1 := below_blk c2 d1
  have wb1 := below_blk lo15 HWB.out
  have bn1 := below_blk lo15 HBN.out
  have ba1 := below_blk lo15 HBA.out
  have loW : Below w1.heap.size w1 W1 := by rw [HBW.out]; exact HLO.out.trans (lo15.mono (by rw [HZ5.out]; omega))
  have ow1 := HO1.out.below loW
  have tw1 : TOwn W1 (.slice p L.length c) (allL L) := HT1.out.fr (Fr.of_below (A := fun _ => False) loW) (fun _ _ hx => hx)
  have hlt1 : ∀ q (o : Obj), w1.heap[q]? = some o → q < Bw := fun q o hq => by have := (Array.getElem?_eq_some_iff.1 hq).1; rw [HBW.out] at this; exact this
  have hFl : ∀ q, F q → q < Bw := fun q hq => by have := HO1.out.a.lt q hq; rw [HBW.out] at this; exact this
  have hGl : ∀ q, G q → q < Bw := fun q hq => by have := HO1.out.b.lt q hq; rw [HBW.out] at this; exact this
  have hbo := hlt1 _ _ HO1.out.o
  have hbr := hlt1 _ _ HO1.out.r
  have hw0 : w.heap.size ≤ Bw := by omega
  have HOW := hid ow1; have HTW := hid tw1; have HDF := hid df1; have HFL := hid hFl; have HGL := hid hGl; have HE2 := hid e2; have HWB1 := hid wb1
  clear c1 d1 e1 c2 lo15 loW ow1 tw1 df1 hFl hGl hlt1 wb1
  refine (all_in 15 (Bw + 1 + 1 + 1 + 1) (Bw + 1 + 1) A _ _ L F (JO W1 (Bw + 1) (Bw + 1 + 1 + 1) r) (fun W => ∃ V k, JO W1 (Bw + 1) (Bw + 1 + 1 + 1) { r with state := .done, pending := some (.exit 1) } V k W ∧ (k : Int) = x ∧ (k : Int) ≤ (L.length : Int)) W1 HOW.out.a (cell_box ba1 rfl) ?_ ?_ ?_).mono ?_
  · intro W1' hb
    exact ⟨Fr.of_below hb, below_blk hb d2, hb.size, below_blk hb bn1⟩
  · intro V k W h
    exact ⟨h.fr.drew, h.lp, h.v1, h.bx⟩
  · rintro mm V k Wk t ht hj hV hV0
    have hE := HE2.out
    refine yield_by hr5 hr6 hr3 hr4 hj.lp hr1 rfl hr7 ?_
    have hkl : k < (allL L).length := (List.getElem?_eq_some_iff.1 ht).1
    have hkt : (allL L)[k] = t := (List.getElem?_eq_some_iff.1 ht).2
    have hkL : k < L.length := by rw [HAL.out] at hkl; exact hkl
    obtain ⟨g, cur, rfl, _, hc1, hc2, hg, hcs, hat⟩ := HTW.out.some (by omega)
    have hgn : g ≠ Bw + 1 := ne_type hg bn1 (by decide)
    have hgl := (Array.getElem?_eq_some_iff.1 hg).1
    have hgD : g ≠ Bw + 1 + 1 + 1 + 1 := fun e => by rw [e, d2] at hg; cases hg
    have other : ∀ q, q < W1.heap.size → q ≠ Bw + 1 → q ≠ Bw + 1 + 1 + 1 + 1 → (Wk.putObj (Bw + 1 + 1 + 1 + 1) (.loop { r with state := .busy })).heap[q]? = W1.heap[q]? := fun q h1 h2 h3 => (World.putObj_heap_other h3).trans (hj.fr.same q h1 (by omega))
    have hgW := (other g hgl hgn hgD).trans hg
    have hwW := (other Bw (by omega) (by omega) (by omega)).trans HWB1.out
    have hoW := (other w.heap.size (by omega) (by omega) (by omega)).trans HOW.out.o
    have hnW : (Wk.putObj (Bw + 1 + 1 + 1 + 1) (.loop { r with state := .busy })).heap[Bw + 1]? = some (.cells #[.int .i64 k] 3 (0, 0)) := (World.putObj_heap_other (by omega)).trans hj.bx
    have x2 := cell_box hgW (hat k hkl 2 (by omega))
    have x0 := cell_box hgW (hat k hkl 0 (by omega))
    rw [hkt] at x2 x0
    have HNX := hid (hj.next (rb := { r with state := .busy }) (by omega) hV _ rfl)
    have HKL := hid hkL
    have hkz : (k : Int) < (L.length : Int) := by omega
    have hkb : (k : Int) ≤ 65536 := by have := HLB.out; omega
    obtain ⟨Wb, hWb⟩ : ∃ Wb, Wk.putObj (Bw + 1 + 1 + 1 + 1) (.loop { r with state := .busy }) = Wb := ⟨_, rfl⟩
    rw [hWb] at hwW hoW hnW x2 x0
    have y1 : Wb.cell? ⟨Bw + 1, 0, none⟩ = some (.int .i64 k) := cell_box hnW rfl
    have y2 : Wb.frozen? ⟨Bw + 1, 0, none⟩ = false := free_box hnW
    have y3 : Wb.cell? ⟨Bw, 0, none⟩ = some (.slice (some ⟨g, 0, none⟩) L.length c) := cell_box hwW rfl
    have b5 := block_set (k := 0) hnW (.int .i64 ((k : Int) + 1))
    have y4 : (Wb.setCell ⟨Bw + 1, 0, none⟩ (.int .i64 ((k : Int) + 1))).cell? ⟨Bw + 1, 0, none⟩ = some (.int .i64 ((k : Int) + 1)) := cell_box b5 rfl
    have y5 : (Wb.setCell ⟨Bw + 1, 0, none⟩ (.int .i64 ((k : Int) + 1))).cell? ⟨w.heap.size, 2, none⟩ = some (.int .i64 x) := cell_box ((set_far (by omega) _).trans hoW) rfl
    have z2 : Wb.cell? ⟨g, k * 3 + 2, none⟩ = some (.int .i64 t.tk) := x2
    have z0 : Wb.cell? ⟨g, k * 3, none⟩ = some (.int .i64 t.x) := x0
    have q1 : (t.tk != t.tk) = false := by simp
    have q2 : (t.x != t.x) = false := by simp
    have q3 : decide ((L.length : Int) ≤ (k : Int)) = false := decide_eq_false (by omega)
    have HJ := hid hj; have HWBB := hid hWb
    clear hr3 hr4 hr5 hr6 hj ht hkt hkl hkL hg hcs hat hgn hgl hgD other hgW hwW hoW hnW x2 x0 b5 hWb
    simp only [List.zip_toArray, List.zip_cons_cons, List.zip_nil_right, List.foldl_toArray, List.foldl_cons, List.foldl_nil, List.setIfInBounds_toArray, List.set_cons_succ, List.set_cons_zero]
    gi_wp2
    refine ⟨HJ.out.lp, ?_⟩
    show Code.wpIn _ _ _ _ _ _ (Wk.putObj (Bw + 1 + 1 + 1 + 1) (.loop { r with state := .busy }))
    rw [HWBB.out]
    by_cases hx : (k : Int) + 1 = x
    · have hxx : ((k : Int) + 1 == x) = true := by simpa using hx
      have HX := hid hx
      clear hx
      gi_wp2_with fail
      obtain ⟨n1, n2, n3⟩ := HNX.out
      rw [HWBB.out] at n1 n2 n3
      obtain ⟨m1, m2, m3⟩ := n3 { r with state := .done, pending := some (.exit 1) }
      refine ⟨n1, fun b hb => ?_, m2, .inr ⟨rfl, V, k + 1, m3, by have := HX.out; omega, by have := HKL.out; omega⟩⟩
      rcases hb with hb | hb
      · exact m1 b hb.2 (by omega) (by omega)
      · have := HFL.out b hb
        exact m1 b (by omega) (by omega) (by omega)
    · have hxx : ((k : Int) + 1 == x) = false := by simpa using hx
      clear hx
      gi_wp2_with fail
      obtain ⟨n1, n2, n3⟩ := HNX.out
      rw [HWBB.out] at n1 n2 n3
      obtain ⟨m1, m2, m3⟩ := n3 r
      refine ⟨n1, ?_⟩
      rw [loop_again hr1 hr2]
      refine ⟨fun b hb => ?_, m2, .inl ⟨rfl, m3⟩⟩
      rcases hb with hb | hb
      · exact m1 b hb.2 (by omega) (by omega)
      · have := HFL.out b hb
        exact m1 b (by omega) (by omega) (by omega)
  · have hE := HE2.out
    -- what is left behind the loop
    have left : ∀ (r' r2 : Loop) V k Wk, JO W1 (Bw + 1) (Bw + 1 + 1 + 1) r' V k Wk → (Wk.putObj (Bw + 1 + 1 + 1 + 1) (.loop r2)).heap[Bw + 1]? = some (.cells #[.int .i64 k] 3 (0, 0)) ∧ (Wk.putObj (Bw + 1 + 1 + 1 + 1) (.loop r2)).heap[Bw]? = some (.cells #[.slice p L.length c] 48 (0, 0)) ∧ (Wk.putObj (Bw + 1 + 1 + 1 + 1) (.loop r2)).heap[Bw + 1 + 1 + 1]? = some (.deferred (some [])) ∧ OW w (Wk.putObj (Bw + 1 + 1 + 1 + 1) (.loop r2)) F G A B w.heap.size (w.heap.size + 1) wh 4 x wt most last L last L F G := fun r' r2 V k Wk hj => by
      refine ⟨(World.putObj_heap_other (by omega)).trans hj.bx, (World.putObj_heap_other (by omega)).trans ((hj.fr.same Bw (by omega) (by omega)).trans HWB1.out), (World.putObj_heap_other (by omega)).trans ((hj.fr.same _ (by omega) (by omega)).trans HDF.out), ?_⟩
      refine (HOW.out.same hj.fr (fun q hq => ⟨by omega, by omega, fun hx => by have := HFL.out q hx; omega, fun hx => by have := HGL.out q hx; omega, by omega⟩)).same (fr_one (W := Wk) (Bw + 1 + 1 + 1 + 1) (.loop r2)) (fun q hq => ⟨by omega, by omega, fun hx => by have := HFL.out q hx; omega, fun hx => by have := HGL.out q hx; omega, by omega⟩)
    have hDD : Bw + 1 + 1 + 1 ≠ w.heap.size + 1 ∧ ¬ F (Bw + 1 + 1 + 1) ∧ ¬ G (Bw + 1 + 1 + 1) ∧ w.heap.size ≤ Bw + 1 + 1 + 1 := ⟨by omega, fun hx => by have := HFL.out _ hx; omega, fun hx => by have := HGL.out _ hx; omega, by omega⟩
    have HLEFT := hid left; have HDD := hid hDD
    rintro e Wk ⟨⟨v, rfl⟩, (⟨V, hj⟩ | ⟨V, k, hj, hkx, hkl⟩)⟩
    · refine ⟨⟨v, rfl⟩, (hj.fr.same _ (by omega) (by omega)).trans HDF.out, .inl ⟨hj.lp, ?_⟩⟩
      obtain ⟨l1, l2, l3, l4⟩ := left r { r with state := .exhausted } V _ Wk hj
      generalize Wk.putObj (Bw + 1 + 1 + 1 + 1) (.loop { r with state := .exhausted }) = W3 at l1 l2 l3 l4 ⊢
      rw [HAL.out] at l1
      have y1 : W3.cell? ⟨Bw + 1, 0, none⟩ = some (.int .i64 L.length) := cell_box l1 rfl
      have y2 : W3.cell? ⟨Bw, 0, none⟩ = some (.slice p L.length c) := cell_box l2 rfl
      have y3 : W3.cell? ⟨w.heap.size + 1, 0, none⟩ = some (.bool false) := cell_box l4.r rfl
      have y4 : W3.frozen? ⟨w.heap.size + 1, 0, none⟩ = false := free_box l4.r
      have q1 : ((L.length : Int) == (L.length : Int)) = true := by simp
      have HEN := hid (l4.fin2 (o := .deferred none) hDD _ rfl)
      have HD3 : Hid ((W3.setCell ⟨w.heap.size + 1, 0, none⟩ (.bool true)).heap[Bw + 1 + 1 + 1]? = some (.deferred (some []))) := hid ((set_far hDD.1 _).trans l3)
      clear hr1 hr2 hr3 hr4 hr5 hr6 hr7 hj left hDD l1 l2 l3 l4 d2 bn1 ba1 hbo hbr hE
      go_wp2_with fail
      refine ⟨by simp, .inl ⟨_, _, rfl, run_takeDeferred HD3.out, ?_⟩⟩
      exact ⟨_, results_c1 rfl rfl (load_bool HEN.out.1), rfl, HEN.out.2⟩
    · refine ⟨⟨v, rfl⟩, (hj.fr.same _ (by omega) (by omega)).trans HDF.out, .inr ⟨.exit 1, hj.lp, ?_⟩⟩
      obtain ⟨l1, l2, l3, l4⟩ := left _ { r with state := .exhausted, pending := some (.exit 1) } V _ Wk hj
      generalize Wk.putObj (Bw + 1 + 1 + 1 + 1) (.loop { r with state := .exhausted, pending := some (.exit 1) }) = W3 at l1 l2 l3 l4 ⊢
      have y1 : W3.cell? ⟨Bw + 1, 0, none⟩ = some (.int .i64 k) := cell_box l1 rfl
      have y2 : W3.cell? ⟨Bw, 0, none⟩ = some (.slice p L.length c) := cell_box l2 rfl
      have y3 : W3.cell? ⟨w.heap.size + 1, 0, none⟩ = some (.bool false) := cell_box l4.r rfl
      have y4 : W3.frozen? ⟨w.heap.size + 1, 0, none⟩ = false := free_box l4.r
      have y5 : W3.cell? ⟨w.heap.size, 2, none⟩ = some (.int .i64 x) := cell_box l4.o rfl
      have q2 : ((k : Int) == x) = true := by simpa using hkx
      have HEN := hid (l4.fin2 (o := .deferred none) hDD _ rfl)
      have HD3 : Hid ((W3.setCell ⟨w.heap.size + 1, 0, none⟩ (.bool true)).heap[Bw + 1 + 1 + 1]? = some (.deferred (some []))) := hid ((set_far hDD.1 _).trans l3)
      clear hr1 hr2 hr3 hr4 hr5 hr6 hr7 hj left hDD l1 l2 l3 l4 d2 bn1 ba1 hbo hbr hE hkx hkl
      refine wpIn_wide.2 ?_
      by_cases hkL : (k : Int) = (L.length : Int)
      · have q1 : ((k : Int) == (L.length : Int)) = true := by simpa using hkL
        clear hkL
        go_wp2_with fail
        refine ⟨by simp, .inl ⟨_, _, rfl, run_takeDeferred HD3.out, ?_⟩⟩
        exact ⟨_, results_c1 rfl rfl (load_bool HEN.out.1), rfl, HEN.out.2⟩
      · have q1 : ((k : Int) == (L.length : Int)) = false := by rw [beq_eq_false_iff_ne]; exact hkL
        have q1' : (k == L.length) = false := by rw [beq_eq_false_iff_ne]; omega
        clear hkL
        go_wp2_with fail
        refine ⟨by simp, .inl ⟨_, _, rfl, run_takeDeferred HD3.out, ?_⟩⟩
        exact ⟨_, results_c1 rfl rfl (load_bool HEN.out.1), rfl, HEN.out.2⟩
end Go.Proofs.Ytchjdpmgocapjaa
