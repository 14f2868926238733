/- AgendaSorts' walk. -/
import Derived.Test.YtchjdpmgocapjaaAgSp
namespace Go.Proofs.Ytchjdpmgocapjaa
open Go.RowKit Go.Shelf

attribute [local go_sem] Oper.semAt_some
/-- An agenda and the result's box. -/
structure SP (w0 w : World) (R A : Nat) (most last : Int) (L : List Th) (F : Nat → Prop) : Prop where
  res : w.heap[R]? = some (.cells #[.bool false] 4 (0, 0))
  ag : AgAt w A most last L F
  far : ¬ F R
  up : ∀ b, F b → w0.heap.size ≤ b
  ge : w0.heap.size ≤ R
  low : Below w0.heap.size w0 w
theorem SP.op {w0 w w' : World} {R A : Nat} {most last : Int} {L : List Th} {F : Nat → Prop} (h : SP w0 w R A most last L F) {l' : Int} {L' : List Th} (he : AgEnd w w' A most l' L' F) : ∃ F', SP w0 w' R A most l' L' F' := by
  obtain ⟨F', h1, h2, h3⟩ := he
  have s := h.low.size
  have lR := (Array.getElem?_eq_some_iff.1 h.res).1
  refine ⟨F', (h2.same _ lR h.far).trans h.res, h1, fun hx => ?_, fun b hb => ?_, h.ge, h.low.trans (h2.below h.up s)⟩
  · rcases h3 _ hx with h4 | h4
    · exact h.far h4
    · omega
  · rcases h3 b hb with h4 | h4
    · exact h.up b h4
    · omega
/-- The loop's memory behind k rounds: the box of what was told, the loop's record, all else as it was. -/
structure JS (W1 : World) (Bt D : Nat) (r : Loop) (L : List Th) (V k : Nat) (W : World) : Prop where
  fr : Fr (fun b => b = Bt ∨ b = D + 1) W1 W
  lp : W.heap[D + 1]? = some (.loop r)
  v1 : W1.heap.size ≤ V
  bx : ∃ vt, W.heap[Bt]? = some (.cells #[vt] 52 (0, 0)) ∧ IOwn W vt (((allL L).take k).map Th.x) ∧ ∀ g, vt.ownBlock = some g → V ≤ g
theorem wpListIn_append_run {F : Fence} {n : Nat} {P : Program} (w : World) {ops : Array Oper} {rest : List Oper} {o : Oper} {a : Act} {Q : Exit → Act → World → Prop} (hg : o.guard = none) (s x : Operand) (t : TypeId)
    (hop : o.op = .call { callee := .builtin .append, args := #[s, x], argTypes := #[t, t] }) (vs vx : Value) (hs : a.eval s = vs) (hx : a.eval x = vx)
    (v' : Value) (w' : World) (hr : (Builtin.append_ #[t, t] o.type #[vs, vx]).run P w = .ok v' w') (h : wpListIn F n P ops Q rest (a.put o.dst v') w') : wpListIn F n P ops Q (o :: rest) a w := by
  refine wpListIn_plain hg fun K hK' => ?_
  unfold Oper.wpIn
  refine ⟨?_, ?_⟩
  · simp [Oper.about, hop, resolve, Target.leads, Sem.run_pure]
  · rw [Oper.semAt_plain F _ _ (by rw [hop]; intro c hc'; cases hc')]
    simp [execOp, hop, resolve, invoke, builtin, hs, hx, hr, Result.andThen]
    exact hK' _ _ h
theorem PS.drewN {w0 w : World} {R D Bt A : Nat} {most last : Int} {L : List Th} {F : Nat → Prop} {vt : Value} {ts : List Int} (h : PS w0 w R D Bt A most last L F vt ts) (n : Nat) : PS w0 (w.drewN n) R D Bt A most last L F vt ts :=
  have hb : Below w.heap.size w (w.drewN n) := ⟨rfl, rfl, rfl, Nat.le_refl _, fun _ _ => rfl⟩
  ⟨h.res, h.df, h.bx, h.ag.below hb, h.row, h.far, h.up, h.ge, h.low.trans (hb.mono h.low.size)⟩
/-- A round's end: one number more is told. -/
theorem JS.next {W1 : World} {Bt D : Nat} {r rb : Loop} {L : List Th} {V k : Nat} {W W4 : World} (h : JS W1 Bt D r L V k W) {vt v' : Value} (hb : W.heap[Bt]? = some (.cells #[vt] 52 (0, 0))) (hg : ∀ g, vt.ownBlock = some g → V ≤ g) (hBD : Bt < D) (hDV : D + 1 < V) (hVW : V ≤ W.heap.size) (hW1 : W1.heap.size ≤ V)
    {t : Th} (ht : (allL L)[k]? = some t) (hI : IOwn W4 v' (((allL L).take k).map Th.x ++ [t.x])) (hf : Fr (fun q => vt.ownBlock = some q) (W.putObj (D + 1) (.loop rb)) W4) (hv : ∀ g, v'.ownBlock = some g → vt.ownBlock = some g ∨ (W.putObj (D + 1) (.loop rb)).heap.size ≤ g) (W5 : World) (h5 : W5 = W4.setCell ⟨Bt, 0, none⟩ v') :
    W5.heap[D + 1]? = some (.loop rb) ∧ (∀ b, b < V → b ≠ Bt → b ≠ D + 1 → (W5.putObj (D + 1) (.loop r)).heap[b]? = W.heap[b]?) ∧ V ≤ (W5.putObj (D + 1) (.loop r)).heap.size ∧ JS W1 Bt D r L V (k + 1) (W5.putObj (D + 1) (.loop r)) := by
  have hlt : D + 1 < W.heap.size := (Array.getElem?_eq_some_iff.1 h.lp).1
  have hsb : (W.putObj (D + 1) (.loop rb)).heap.size = W.heap.size := by simp [World.putObj]
  have hgV : ∀ g, v'.ownBlock = some g → V ≤ g := fun g hx => by
    rcases hv g hx with h1 | h1
    · exact hg g h1
    · omega
  have s4 : W.heap.size ≤ W4.heap.size := by have := hf.low.size; omega
  have fr5 : Fr (fun q => q = Bt) W4 W5 := by rw [h5]; exact fr_set _ _ _ _
  have s5 := fr5.low.size
  have box4 : W4.heap[Bt]? = some (.cells #[vt] 52 (0, 0)) := (hf.same Bt (by omega) (fun hx => by have := hg _ hx; omega)).trans ((World.putObj_heap_other (by omega)).trans hb)
  have box5 : W5.heap[Bt]? = some (.cells #[v'] 52 (0, 0)) := by rw [h5]; exact block_set box4 v'
  have lp5 : W5.heap[D + 1]? = some (.loop rb) := (fr5.same _ (by omega) (by omega)).trans ((hf.same _ (by omega) (fun hx => by have := hg _ hx; omega)).trans (World.putObj_heap_same hlt))
  have s6 : (W5.putObj (D + 1) (.loop r)).heap.size = W5.heap.size := by simp [World.putObj]
  have keep : ∀ b, b < V → b ≠ Bt → b ≠ D + 1 → (W5.putObj (D + 1) (.loop r)).heap[b]? = W.heap[b]? := fun b h1 h2 h3 => by
    rw [World.putObj_heap_other h3, fr5.same b (by omega) h2, hf.same b (by omega) (fun hx => by have := hg _ hx; omega), World.putObj_heap_other h3]
  refine ⟨lp5, keep, by omega, ⟨⟨?_, fun b hb1 hb2 => ?_⟩, World.putObj_heap_same (by omega), hW1, v', (World.putObj_heap_other (by omega)).trans box5, ?_, hgV⟩⟩
  · exact ((h.fr.low.trans (fr_one (W := W) (D + 1) (.loop rb)).low).trans (hf.low.trans fr5.low)).trans (fr_one (W := W5) (D + 1) (.loop r)).low
  · exact (keep b (by omega) (fun e => hb2 (.inl e)) (fun e => hb2 (.inr e))).trans (h.fr.same b hb1 hb2)
  · have e1 : ((allL L).take (k + 1)).map Th.x = ((allL L).take k).map Th.x ++ [t.x] := by
      rw [List.take_add_one, ht]
      simp
    rw [e1]
    exact (hI.fr fr5 (fun g hx => by have := hgV g hx; omega)).fr (fr_one (W := W5) (D + 1) (.loop r)) (fun g hx => by have := hgV g hx; omega)
set_option maxRecDepth 100000 in
set_option maxHeartbeats 8000000 in
theorem sorts_walk (a0 : Option Addr) (cap0 : Nat) (ws : List Int) (w : World) (h0 : IntsAt w a0 ws) (s0 : ws.length ≤ 140737488355328) :
    Calls Try.prog 5 #[.slice a0 ws.length cap0] w fun e w' => e = .returned (.bool true) ∧ Below w.heap.size w w' := by
  refine (callsIn_wide (n := 20)).1 ?_
  refine callsIn_of_wp_marks Try.func5 rfl trivial (wpIn_wide.2 ?_) rfl
  simp only [Try.ntmps5, List.size_toArray, List.length_cons, List.length_nil, Nat.reduceAdd, Nat.reduceSub, Array.replicate_succ, Array.replicate_zero, List.push_toArray, List.append_toArray, List.nil_append, List.cons_append]
  go_wp2_with fail
  have b1 := alloc_below0 w (.cells #[.bool false] 4)
  have n1 := World.alloc_heap_new w (.cells #[.bool false] 4)
  have z1 := World.size_alloc w (.cells #[.bool false] 4)
  generalize w.alloc (.cells #[.bool false] 4) = w1 at b1 n1 z1 ⊢
  refine (lives_any w1).mono ?_
  rintro e w2 ⟨rfl, hb2⟩
  have hres2 := below_blk hb2 n1
  have hb12 := b1.trans (hb2.mono (by omega))
  have HRES := hid hres2; have HB12 := hid hb12; have HZ : Hid (w.heap.size < w2.heap.size) := hid (Array.getElem?_eq_some_iff.1 hres2).1
  clear b1 n1 z1 hb2 hres2 hb12
  by_cases hbig : 65536 ≤ ws.length
  · have hcond : decide ((65536 : Int) < (ws.length : Int) + 1) = true := by rw [decide_eq_true_iff]; omega
    have HN1 := hid (new_none ((ws.length : Int) + 1) (.inr (by omega)) w2)
    have f2 : w2.frozen? ⟨w.heap.size, 0, none⟩ = false := free_box HRES.out
    have c2 : w2.cell? ⟨w.heap.size, 0, none⟩ = some (.bool false) := cell_box HRES.out rfl
    clear hbig
    go_wp2_with fail
    refine HN1.out.mono ?_
    rintro e w3 ⟨rfl, rfl⟩
    have HX : Hid ((w3.setCell ⟨w.heap.size, 0, none⟩ (.bool true)).heap[w.heap.size]? = some (.cells #[.bool true] 4 (0, 0))) := hid (block_set HRES.out (.bool true))
    have HX2 : Hid (Below w.heap.size w (w3.setCell ⟨w.heap.size, 0, none⟩ (.bool true))) := hid (HB12.out.trans ((fr_set _ _ _ _).below (fun k hk => by omega) (Nat.le_of_lt HZ.out)))
    go_wp2_with fail
    exact ⟨_, results_c1 rfl rfl (load_bool HX.out), rfl, HX2.out⟩
  · have hcond : decide ((65536 : Int) < (ws.length : Int) + 1) = false := by rw [decide_eq_false_iff_not]; omega
    have HBG : Hid (ws.length < 65536) := hid (by omega)
    have HN1 := hid (new_any ((ws.length : Int) + 1) (by omega) (by omega) w2)
    clear hbig
    go_wp2_with fail
    refine HN1.out.mono ?_
    rintro e w3 ⟨A, F, rfl, hA, hb3, hF⟩
    have HSP : Hid (SP w w3 w.heap.size A ((ws.length + 1 : Nat) : Int) ((0 : Nat) : Int) (rowB (at0 ws) 0) F) := hid ⟨below_blk hb3 HRES.out, hA, fun hx => by have := hF _ hx; have := HZ.out; omega, fun b hb => by have := hF b hb; have := HZ.out; omega, Nat.le_refl _, HB12.out.trans (hb3.mono (Nat.le_of_lt HZ.out))⟩
    clear hA hb3 hF HN1 HRES HB12 HZ
    go_wp2_with fail
    go_loopw [6] (fun iv wr => ∃ i : Nat, iv = .int .i64 i ∧ i ≤ ws.length ∧ ∃ F, SP w wr w.heap.size A ((ws.length + 1 : Nat) : Int) (i : Int) (rowB (at0 ws) i) F) (fun iv _ => ws.length - (intOf iv).toNat)
    case atStart => exact ⟨0, rfl, Nat.zero_le _, F, HSP.out⟩
    case round =>
      obtain ⟨i, rfl, hin, F1, hM⟩ := hrel
      by_cases hi : i < ws.length
      · obtain ⟨b0, o0, rfl, c0⟩ := h0.low hM.low i hi
        have hiz : (i : Int) < (ws.length : Int) := by omega
        have HM := hid hM
        have HPU := hid (push_more hM.ag i (at0 ws i) (by rw [row_len]; omega) (by omega))
        clear hM
        go_wp2_with fail
        refine HPU.out.mono ?_
        rintro e w4 ⟨rfl, he4⟩
        obtain ⟨F4, hM4⟩ := HM.out.op he4
        have HM4 := hid hM4
        have hnn : ((i : Int) + 1 != (i : Int) + 1) = false := by simp
        clear he4 hM4 HM HPU
        go_wp2_with fail
        go_roundw
        case rel => exact ⟨i + 1, by go_num, by omega, F4, by rw [row_succ]; exact HM4.out⟩
        case measure => simp [intOf]; omega
      · obtain rfl : i = ws.length := by omega
        have hL := hM.ag
        have hbt := alloc_below0 wr (.cells #[.slice none 0 0] 52)
        have nbt := World.alloc_heap_new wr (.cells #[.slice none 0 0] 52)
        have zbt := World.size_alloc wr (.cells #[.slice none 0 0] 52)
        have HM := hid hM
        obtain ⟨Bt, hBt⟩ : ∃ Bt, wr.heap.size = Bt := ⟨_, rfl⟩
        have HBT := hid hBt
        rw [hBt] at nbt zbt hbt
        clear hL hM HSP
        go_wp2_with fail
        generalize wr.alloc (.cells #[.slice none 0 0] 52) = wb at hbt nbt zbt ⊢
        refine (allv_any A wb).mono ?_
        rintro e w5 ⟨rfl, h5⟩
        have hb5 := alloc_below0 wb (.cells #[.pointer (some ⟨A, 0, none⟩)] 38)
        have n5 := World.alloc_heap_new wb (.cells #[.pointer (some ⟨A, 0, none⟩)] 38)
        have z5 := World.size_alloc wb (.cells #[.pointer (some ⟨A, 0, none⟩)] 38)
        rw [← h5] at hb5 n5 z5
        clear h5
        have hfn : (binOp .eql 55 (.func (.func 39) #[] #[.pointer (some ⟨wb.heap.size, 0, none⟩)]) .nilFunc).run Try.prog w5 = .ok (.bool false) w5 := rfl
        rw [zbt] at z5 n5 hfn ⊢
        have HBX := hid (below_blk hb5 nbt); have HBA := hid n5; have HZ5 := hid z5
        have HLO := hid (hbt.trans (hb5.mono (by rw [zbt]; omega)))
        clear hbt nbt zbt hb5 n5 z5 hBt
        go_wp2_with fail
        refine (wpIn_wide (n := 20)).1 ?_
        refine range_law (n := 20) rfl (by omega) (gf := 39) (lb := #[.pointer (some ⟨Bt + 1, 0, none⟩)]) rfl trivial (enters_of Try.func39 (by kernel_rfl) rfl) ?_
        intro r hr1 hr2 hr3 hr4 hr5 hr6 hr7
        have c1 := alloc_below0 w5 (.deferred (some []))
        have d1 := World.alloc_heap_new w5 (.deferred (some []))
        have e1 := World.size_alloc w5 (.deferred (some []))
        generalize w5.alloc (.deferred (some [])) = w6 at c1 d1 e1 ⊢
        have c2 := alloc_below0 w6 (.loop r)
        have d2 := World.alloc_heap_new w6 (.loop r)
        have e2 := World.size_alloc w6 (.loop r)
        generalize w6.alloc (.loop r) = W1 at c2 d2 e2 ⊢
        rw [HZ5.out] at e1 d1 ⊢
        rw [e1] at e2 d2
        have lo15 : Below w5.heap.size w5 W1 := c1.trans (c2.mono (by rw [e1, HZ5.out]; omega))
        have df1 := below_blk c2 d1
        have bx1 := below_blk lo15 HBX.out
        have ba1 := below_blk lo15 HBA.out
        have loW : Below Bt wr W1 := HLO.out.trans (lo15.mono (by rw [HZ5.out]; omega))
        have hlow : Below wr.heap.size wr W1 := by rw [HBT.out]; exact loW
        have ag1 := HM.out.ag.below hlow
        have res1 := below_blk hlow HM.out.res
        have hFlt : ∀ b, F1 b → b < Bt := fun b hb => by have := HM.out.ag.lt b hb; rw [HBT.out] at this; exact this
        have hRlt : w.heap.size < Bt := by have := (Array.getElem?_eq_some_iff.1 HM.out.res).1; rw [HBT.out] at this; exact this
        have hlowW : Below w.heap.size w W1 := HM.out.low.trans (hlow.mono (by rw [HBT.out]; omega))
        have HAG := hid ag1; have HRS := hid res1; have HDF := hid df1; have HFL := hid hFlt; have HLW := hid hlowW; have HE2 := hid e2
        clear c1 d1 e1 c2 lo15 loW hlow ag1 res1 df1 hFlt hlowW
        refine (all_in 15 (Bt + 1 + 1 + 1) (Bt + 1) A _ _ (rowB (at0 ws) ws.length) F1 (JS W1 Bt (Bt + 1 + 1) r (rowB (at0 ws) ws.length)) (fun _ => False) W1 HAG.out (cell_box ba1 rfl) ?_ ?_ ?_).mono ?_
        · intro W1' hb
          exact ⟨Fr.of_below hb, below_blk hb d2, hb.size, .slice none 0 0, below_blk hb bx1, by simp only [List.take_zero, List.map_nil]; exact iown_nil _, fun g hg => by cases hg⟩
        · intro V k W h
          exact ⟨h.fr.drew, h.lp, h.v1, h.bx⟩
        · rintro mm V k W t ht hj hV hV0
          refine yield_by hr5 hr6 hr3 hr4 hj.lp hr1 rfl hr7 ?_
          obtain ⟨vt, bx, iw, gv⟩ := hj.bx
          obtain ⟨gt1, j, hjn, gt2, gt3⟩ := row_gd ws t (all_mem (rise_row _ _) (List.mem_of_getElem? ht))
          have HJ := hid hj; have HBXW := hid bx; have HGV := hid gv; have HT := hid ht; have HT2 := hid gt2
          have hkl : k < ws.length := by have := (List.getElem?_eq_some_iff.1 ht).1; rw [all_len _ (rise_row _ _), row_len] at this; exact this
          rw [gt1, gt2]
          have hjz : (j : Int) ≤ 65536 := by have := HBG.out; omega
          have hDV : Bt + 1 + 1 + 1 < V := by have := HE2.out; omega
          have hiw : IOwn (W.putObj (Bt + 1 + 1 + 1) (.loop { r with state := .busy })) vt (((allL (rowB (at0 ws) ws.length)).take k).map Th.x) := iw.fr (fr_one _ _) (fun g hg hx => by have := gv g hg; omega)
          obtain ⟨v', W4, hr4', hI4, hf4, hv4⟩ := app_int vt _ (j : Int) _ hiw (by rw [List.length_map, List.length_take]; have := HBG.out; omega)
          rw [← gt2] at hI4
          obtain ⟨p', n', c', rfl⟩ : ∃ p n c, v' = .slice p n c := by obtain ⟨p, c, h⟩ := hI4.form; exact ⟨p, _, c, h⟩
          have hlt : Bt + 1 + 1 + 1 < W.heap.size := (Array.getElem?_eq_some_iff.1 hj.lp).1
          have hsb : (W.putObj (Bt + 1 + 1 + 1) (.loop { r with state := .busy })).heap.size = W.heap.size := by simp [World.putObj]
          have k4 : W4.heap[Bt]? = some (.cells #[vt] 52 (0, 0)) := (hf4.same Bt (by omega) (fun hx => by have := gv _ hx; omega)).trans ((World.putObj_heap_other (by omega)).trans bx)
          have kb : (W.putObj (Bt + 1 + 1 + 1) (.loop { r with state := .busy })).heap[Bt]? = some (.cells #[vt] 52 (0, 0)) := (World.putObj_heap_other (by omega)).trans bx
          have HNX := hid (hj.next bx gv (by omega) hDV hV hV0 ht hI4 hf4 hv4 _ rfl)
          obtain ⟨Wb, hWb⟩ : ∃ Wb, W.putObj (Bt + 1 + 1 + 1) (.loop { r with state := .busy }) = Wb := ⟨_, rfl⟩
          have q1 : Wb.cell? ⟨Bt, 0, none⟩ = some vt := by rw [← hWb]; exact cell_box kb rfl
          have q2 : W4.cell? ⟨Bt, 0, none⟩ = some vt := cell_box k4 rfl
          have q3 : W4.frozen? ⟨Bt, 0, none⟩ = false := free_box k4
          rw [hWb] at hr4'
          have HWB := hid hWb
          have hne : ((j : Int) + 1 != (j : Int) + 1) = false := by simp
          clear hr3 hr4 hr5 hr6 hj bx iw gv ht hiw hI4 hf4 hv4 k4 kb hsb hlt gt1 gt2 gt3 hWb
          simp only [List.zip_toArray, List.zip_cons_cons, List.zip_nil_right, List.foldl_toArray, List.foldl_cons, List.foldl_nil, List.setIfInBounds_toArray, List.set_cons_succ, List.set_cons_zero]
          gi_wp2
          refine ⟨HJ.out.lp, ?_⟩
          show Code.wpIn _ _ _ _ _ _ (W.putObj (Bt + 1 + 1 + 1) (.loop { r with state := .busy }))
          rw [HWB.out]
          gi_wp2_with (first
            | (gi_at_builtin; refine wpListIn_append_run _ rfl _ _ _ rfl _ _ rfl rfl _ _ hr4' ?_; clear hr4')
            | fail)
          obtain ⟨n1, n2, n3, n4⟩ := HNX.out
          refine ⟨n1, ?_⟩
          rw [loop_again hr1 hr2]
          have hE := HE2.out
          refine ⟨fun b hb => ?_, n3, .inl ⟨rfl, n4⟩⟩
          rcases hb with hb | hb
          · exact n2 b hb.2 (by omega) (by omega)
          · have := HFL.out b hb
            exact n2 b (by omega) (by omega) (by omega)
        · rintro e W ⟨⟨v, rfl⟩, (⟨V, hj⟩ | hx)⟩
          · have hE := HE2.out
            have hV1 := hj.v1
            obtain ⟨vt, bx, iw, gv⟩ := hj.bx
            have hlt : Bt + 1 + 1 + 1 < W.heap.size := (Array.getElem?_eq_some_iff.1 hj.lp).1
            have dfW := (hj.fr.same (Bt + 1 + 1) (by omega) (by omega)).trans HDF.out
            refine ⟨⟨v, rfl⟩, dfW, .inl ⟨hj.lp, ?_⟩⟩
            have hlen : (allL (rowB (at0 ws) ws.length)).length = ws.length := by rw [all_len _ (rise_row _ _), row_len]
            rw [List.take_length] at iw
            have hPS : PS w (W.putObj (Bt + 1 + 1 + 1) (.loop { r with state := .exhausted })) w.heap.size (Bt + 1 + 1) Bt A ((ws.length + 1 : Nat) : Int) (ws.length : Int) (rowB (at0 ws) ws.length) F1 vt ((allL (rowB (at0 ws) ws.length)).map Th.x) := by
              have f1 := fr_one (W := W) (Bt + 1 + 1 + 1) (.loop { r with state := .exhausted })
              refine ⟨?_, (World.putObj_heap_other (by omega)).trans dfW, (World.putObj_heap_other (by omega)).trans bx, (HAG.out.fr hj.fr (fun b hb hx => by have := HFL.out b hb; omega)).fr f1 (fun b hb hx => by have := HFL.out b hb; omega), iw.fr f1 (fun g hg hx => by have := gv g hg; omega), ⟨fun hx => ?_, fun hx => ?_, fun hx => ?_, fun g hg hx => ?_⟩, HM.out.up, ⟨Nat.le_refl _, by omega⟩, ?_⟩
              · exact (World.putObj_heap_other (by omega)).trans ((hj.fr.same _ (by omega) (by omega)).trans HRS.out)
              · exact HM.out.far hx
              · have := HFL.out _ hx; omega
              · have := HFL.out _ hx; omega
              · have := HFL.out _ hx; have := gv g hg; omega
              · exact (HLW.out.trans (hj.fr.below (fun b hb => by omega) (by omega))).trans (f1.below (fun b hb => by omega) (by omega))
            obtain ⟨pt, ct, rfl⟩ : ∃ p c, vt = .slice p ws.length c := by obtain ⟨p, c, h⟩ := iw.form; rw [List.length_map, hlen] at h; exact ⟨p, c, h⟩
            have HPS := hid hPS
            generalize W.putObj (Bt + 1 + 1 + 1) (.loop { r with state := .exhausted }) = W3 at HPS ⊢
            have k1 : W3.cell? ⟨Bt, 0, none⟩ = some (.slice pt ws.length ct) := cell_box HPS.out.bx rfl
            have HLN := hid (aLen_any HPS.out.ag)
            rw [row_len] at HLN
            clear hr1 hr2 hr3 hr4 hr5 hr6 hr7 hj bx iw gv dfW hPS hlt hE hV1 hlen d2 bx1 ba1
            have hnn : ((ws.length : Int) != (ws.length : Int)) = false := by simp
            go_wp2_with fail
            refine HLN.out.mono ?_
            rintro e w8 ⟨rfl, rfl⟩
            go_wp2_with fail
            go_loopw [13, 14] (fun lv iv wr => ∃ (i : Nat) (l : Int) (L : List Th) (F : Nat → Prop), lv = .int .i64 l ∧ iv = .int .i64 i ∧ i ≤ ws.length ∧ Left ws i L l ∧ PS w wr w.heap.size (Bt + 1 + 1) Bt A ((ws.length + 1 : Nat) : Int) (ws.length : Int) L F (.slice pt ws.length ct) ((allL (rowB (at0 ws) ws.length)).map Th.x)) (fun _ iv _ => ws.length - (intOf iv).toNat)
            case atStart => exact ⟨0, -1, _, _, rfl, rfl, Nat.zero_le _, left_start ws, HPS.out⟩
            case round =>
              obtain ⟨i, l, L, F2, rfl, rfl, hin, hLf, hM⟩ := hrel
              by_cases hi : i < ws.length
              · obtain ⟨k, hk, hv, hat, hL2, hlast⟩ := hLf.step hi
                have HPO := hid (pop_any hM.ag (by have := HBG.out; omega))
                rw [hv] at HPO
                have HM := hid hM; have HL2 := hid hL2; have HAT := hid hat
                have hiz : (i : Int) < (ws.length : Int) := by omega
                have hkz : (k : Int) < (ws.length : Int) := by omega
                clear hLf hM hv hL2 hat
                go_wp2_with fail
                refine HPO.out.mono ?_
                rintro e w9 ⟨rfl, he9⟩
                obtain ⟨F9, hM9⟩ := HM.out.op he9
                have k9 : w9.cell? ⟨Bt, 0, none⟩ = some (.slice pt ws.length ct) := cell_box hM9.bx rfl
                have hil : i < ((allL (rowB (at0 ws) ws.length)).map Th.x).length := (List.getElem?_eq_some_iff.1 HAT.out).1
                obtain ⟨g, rfl, hcl, hcc, hcm, ct9⟩ := hM9.row.cell i hil
                rw [(List.getElem?_eq_some_iff.1 HAT.out).2] at ct9
                obtain ⟨b0, o0, rfl, c0⟩ := h0.low hM9.low k hk
                have HM9 := hid hM9
                have e1 : ((k : Int) != (k : Int)) = false := by simp
                have e2 : ((k : Int) + 1 != (k : Int) + 1) = false := by simp
                have hkb : (k : Int) ≤ 65536 := by have := HBG.out; omega
                clear he9 hcl hil HPO HM
                rcases hlast with rfl | ⟨j, hj, rfl, hlt1, hlt2⟩
                · go_wp2_with fail
                  go_big_quiet (fail)
                  go_wp2_with fail
                  go_roundw
                  case rel => exact ⟨i + 1, k, _, F9, rfl, by go_num, by omega, HL2.out, HM9.out.drewN _⟩
                  case measure => simp [intOf]; omega
                · obtain ⟨b9, o9, e9, c9⟩ := h0.low HM9.out.low j hj
                  cases e9
                  have hjz : (j : Int) < (ws.length : Int) := by omega
                  obtain ⟨xk, hxk⟩ : ∃ x, at0 ws k = x := ⟨_, rfl⟩
                  obtain ⟨xj, hxj⟩ : ∃ x, at0 ws j = x := ⟨_, rfl⟩
                  rw [hxk] at c0 hlt1 hlt2
                  rw [hxj] at c9 hlt1 hlt2
                  clear hxk hxj
                  have hd1 : decide (xk < xj) = false := decide_eq_false (by omega)
                  by_cases heq : xk = xj
                  · have hb1 : (xk == xj) = true := by simpa using heq
                    have hb2 : decide ((k : Int) ≤ (j : Int)) = false := decide_eq_false (fun h => hlt2 ⟨heq, h⟩)
                    have hb3 : decide (k ≤ j) = false := by rw [decide_eq_false_iff_not]; intro h; exact hlt2 ⟨heq, by omega⟩
                    clear heq hlt2 hlt1
                    go_wp2_with fail
                    go_big_quiet (fail)
                    go_wp2_with fail
                    go_roundw
                    case rel => exact ⟨i + 1, k, _, F9, rfl, by go_num, by omega, HL2.out, HM9.out.drewN _⟩
                    case measure => simp [intOf]; omega
                  · have hb1 : (xk == xj) = false := by simpa using heq
                    clear heq hlt2 hlt1
                    go_wp2_with fail
                    go_big_quiet (fail)
                    go_wp2_with fail
                    go_roundw
                    case rel => exact ⟨i + 1, k, _, F9, rfl, by go_num, by omega, HL2.out, HM9.out.drewN _⟩
                    case measure => simp [intOf]; omega
              · have hl := hLf.len
                have hL0 : L = [] := List.length_eq_zero_iff.1 (by omega)
                subst hL0
                have HPO := hid (pop_any hM.ag (by have := HBG.out; omega))
                rw [peek_none rfl] at HPO
                have HM := hid hM
                have hiz : ¬ (i : Int) < (ws.length : Int) := by omega
                clear hLf hM hl
                go_wp2_with fail
                refine HPO.out.mono ?_
                rintro e w9 ⟨rfl, he9⟩
                obtain ⟨F9, hM9⟩ := HM.out.op he9
                have HLN := hid (aLen_any hM9.ag)
                rw [show (popL []).length = 0 from rfl] at HLN
                have HM9 := hid hM9
                have f9 : w9.frozen? ⟨w.heap.size, 0, none⟩ = false := free_box hM9.res
                have c9 : w9.cell? ⟨w.heap.size, 0, none⟩ = some (.bool false) := cell_box hM9.res rfl
                have hgD := hM9.ge.2
                have hne : (Bt + 1 + 1) ≠ w.heap.size := fun e => by
                  have h1 := hM9.res
                  have h2 := hM9.df
                  rw [e, h1] at h2
                  cases h2
                have HX : Hid ((w9.setCell ⟨w.heap.size, 0, none⟩ (.bool true)).heap[w.heap.size]? = some (.cells #[.bool true] 4 (0, 0))) := hid (block_set hM9.res (.bool true))
                have HD : Hid ((w9.setCell ⟨w.heap.size, 0, none⟩ (.bool true)).heap[Bt + 1 + 1]? = some (.deferred (some []))) := hid ((set_far hne _).trans hM9.df)
                have HX2 : Hid (Below w.heap.size w (w9.setCell ⟨w.heap.size, 0, none⟩ (.bool true))) := hid (hM9.low.trans ((fr_set _ _ _ _).below (fun k hk => by omega) hM9.low.size))
                clear he9 hM9 HPO HM
                go_wp2_with fail
                refine HLN.out.mono ?_
                rintro e w10 ⟨rfl, rfl⟩
                go_wp2_with fail
                refine ⟨by simp, .inl ⟨_, _, rfl, run_takeDeferred HD.out, ?_⟩⟩
                exact ⟨_, results_c1 rfl rfl (load_bool ((World.putObj_heap_other (fun e => hne e.symm)).trans HX.out)), rfl, HX2.out.trans ((fr_one (Bt + 1 + 1) _).below (fun b e => by omega) HX2.out.size)⟩
          · exact hx.elim
end Go.Proofs.Ytchjdpmgocapjaa
