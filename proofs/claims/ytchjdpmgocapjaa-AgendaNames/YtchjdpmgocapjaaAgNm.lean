/- AgendaNames' walk. -/
import Derived.Test.YtchjdpmgocapjaaAtWe
import Derived.Test.YtchjdpmgocapjaaAtAi
import Derived.Test.YtchjdpmgocapjaaAgLv
namespace Go.Proofs.Ytchjdpmgocapjaa.S
open Go.RowKit Go.Shelf

attribute [local go_sem] Oper.semAt_some
theorem AgEnd.up {w0 w w' : World} {A : Nat} {most last : Int} {L : List Th} {F : Nat → Prop} (h : AgEnd w w' A most last L F) (hb : Below w0.heap.size w0 w) (hF : ∀ b, F b → w0.heap.size ≤ b) : ∃ F', AgAt w' A most last L F' ∧ Below w0.heap.size w0 w' ∧ ∀ b, F' b → w0.heap.size ≤ b := by
  obtain ⟨F', h1, h2, h3⟩ := h
  have s := hb.size
  exact ⟨F', h1, hb.trans (h2.below hF s), fun b hx => (h3 b hx).elim (hF b) (fun h => by omega)⟩
theorem allv_any (A : Nat) (w : World) : Calls Try.prog 12 #[.pointer (some ⟨A, 0, none⟩)] w fun e w' => e = .returned (.func (.func 28) #[] #[.pointer (some ⟨w.heap.size, 0, none⟩)]) ∧ w' = w.alloc (.cells #[.pointer (some ⟨A, 0, none⟩)] 23) := by
  go_enter Try.func12, Try.ntmps12
  go_wp2
  go_ret
  exact ⟨rfl, rfl⟩
/-- What is told behind k rounds. -/
def told : Nat → ByteArray
  | 0 => ⟨#[]⟩
  | 1 => ⟨#[51, 99]⟩
  | _ => ⟨#[51, 99, 97]⟩
def L2 : List Th := [⟨⟨#[97]⟩, 5, 1⟩, ⟨⟨#[99]⟩, 4, 3⟩]
theorem all_L2 : allL L2 = [⟨⟨#[99]⟩, 4, 3⟩, ⟨⟨#[97]⟩, 5, 1⟩] := rfl
/-- The loop's memory behind k rounds. -/
structure JN (W1 : World) (Bs D : Nat) (r : Loop) (V k : Nat) (W : World) : Prop where
  fr : Fr (fun b => b = Bs ∨ b = D + 1) W1 W
  lp : W.heap[D + 1]? = some (.loop r)
  v1 : W1.heap.size ≤ V
  bx : W.heap[Bs]? = some (.cells #[.string (told k)] 9 (0, 0))
theorem JN.next {W1 : World} {Bs D : Nat} {r rb : Loop} {V k k' : Nat} {W : World} (h : JN W1 Bs D r V k W) (hBD : Bs < D) (hVW : V ≤ W.heap.size) (W5 : World) (hf : Fr (fun b => b = Bs) (W.putObj (D + 1) (.loop rb)) W5) (hb : W5.heap[Bs]? = some (.cells #[.string (told k')] 9 (0, 0))) :
    W5.heap[D + 1]? = some (.loop rb) ∧ (∀ b, b < V → b ≠ Bs → b ≠ D + 1 → (W5.putObj (D + 1) (.loop r)).heap[b]? = W.heap[b]?) ∧ V ≤ (W5.putObj (D + 1) (.loop r)).heap.size ∧ JN W1 Bs D r V k' (W5.putObj (D + 1) (.loop r)) := by
  have hlt : D + 1 < W.heap.size := (Array.getElem?_eq_some_iff.1 h.lp).1
  have hsb : (W.putObj (D + 1) (.loop rb)).heap.size = W.heap.size := by simp [World.putObj]
  have s5 : W.heap.size ≤ W5.heap.size := by have := hf.low.size; omega
  have s6 : (W5.putObj (D + 1) (.loop r)).heap.size = W5.heap.size := by simp [World.putObj]
  have v1 := h.v1
  have lp5 : W5.heap[D + 1]? = some (.loop rb) := (hf.same _ (by omega) (by omega)).trans (World.putObj_heap_same hlt)
  have keep : ∀ b, b < V → b ≠ Bs → b ≠ D + 1 → (W5.putObj (D + 1) (.loop r)).heap[b]? = W.heap[b]? := fun b h1 h2 h3 => by
    rw [World.putObj_heap_other h3, hf.same b (by omega) h2, World.putObj_heap_other h3]
  refine ⟨lp5, keep, by omega, ⟨⟨?_, fun b hb1 hb2 => ?_⟩, World.putObj_heap_same (by omega), v1, (World.putObj_heap_other (by omega)).trans hb⟩⟩
  · exact ((h.fr.low.trans (fr_one (W := W) (D + 1) (.loop rb)).low).trans hf.low).trans (fr_one (W := W5) (D + 1) (.loop r)).low
  · exact (keep b (by omega) (fun e => hb2 (.inl e)) (fun e => hb2 (.inr e))).trans (h.fr.same b hb1 hb2)
/-- An agenda, the box of what was told, the deferred list. -/
structure NS (w0 w : World) (Bs D A : Nat) (most last : Int) (L : List Th) (F : Nat → Prop) : Prop where
  bx : w.heap[Bs]? = some (.cells #[.string ⟨#[51, 99, 97]⟩] 9 (0, 0))
  df : w.heap[D]? = some (.deferred (some []))
  ag : AgAt w A most last L F
  far : ¬ F Bs ∧ ¬ F D
  up : ∀ b, F b → w0.heap.size ≤ b
  ge : w0.heap.size ≤ D
  low : Below w0.heap.size w0 w
theorem NS.op {w0 w w' : World} {Bs D A : Nat} {most last : Int} {L : List Th} {F : Nat → Prop} (h : NS w0 w Bs D A most last L F) {l' : Int} {L' : List Th} (he : AgEnd w w' A most l' L' F) : ∃ F', NS w0 w' Bs D A most l' L' F' := by
  obtain ⟨F', h1, h2, h3⟩ := he
  have s := h.low.size
  have lB := (Array.getElem?_eq_some_iff.1 h.bx).1
  have lD := (Array.getElem?_eq_some_iff.1 h.df).1
  refine ⟨F', (h2.same _ lB h.far.1).trans h.bx, (h2.same _ lD h.far.2).trans h.df, h1, ⟨fun hx => ?_, fun hx => ?_⟩, fun b hb => ?_, h.ge, h.low.trans (h2.below h.up s)⟩
  · rcases h3 _ hx with h4 | h4
    · exact h.far.1 h4
    · omega
  · rcases h3 _ hx with h4 | h4
    · exact h.far.2 h4
    · omega
  · rcases h3 b hb with h4 | h4
    · exact h.up b h4
    · omega
set_option maxRecDepth 100000 in
set_option maxHeartbeats 8000000 in
theorem names_walk (w : World) : Calls Try.prog 3 #[] w fun e w' => e = .returned (.bool true) ∧ Below w.heap.size w w' := by
  refine (callsIn_wide (n := 20)).1 ?_
  refine callsIn_of_wp_marks Try.func3 rfl trivial (wpIn_wide.2 ?_) rfl
  simp only [Try.ntmps3, List.size_toArray, List.length_nil, Nat.reduceSub, Array.replicate_succ, Array.replicate_zero, List.push_toArray, List.append_toArray, List.nil_append, List.cons_append]
  go_wp2_with fail
  refine (lives_any w).mono ?_
  rintro e w1 ⟨rfl, hb1⟩
  have HB1 := hid hb1
  clear hb1
  go_wp2_with fail
  refine (new_any 3 (by omega) (by omega) w1).mono ?_
  rintro e w2 ⟨A, F, rfl, hA, hb2, hF⟩
  have HA := hid hA; have HB2 := hid (HB1.out.trans (hb2.mono HB1.out.size)); have HF : Hid (∀ b, F b → w.heap.size ≤ b) := hid (fun b hb => Nat.le_trans HB1.out.size (hF b hb))
  clear hA hb2 hF
  go_wp2_with fail
  refine (new_none 0 (.inl (by omega)) w2).mono ?_
  rintro e w3 ⟨rfl, h3⟩
  rw [h3]
  clear h3
  go_wp2_with fail
  refine (push_more HA.out ⟨#[97]⟩ 5 (by simp) (by omega)).mono ?_
  rintro e w4 ⟨rfl, he⟩
  obtain ⟨F4, hA4, hb4, hF4⟩ := he.up HB2.out HF.out
  have HA4 := hid hA4; have HB4 := hid hb4; have HF4 := hid hF4
  clear he hA4 hb4 hF4
  go_wp2_with fail
  refine (push_more HA4.out ⟨#[98]⟩ 2 (by simp) (by omega)).mono ?_
  rintro e w5 ⟨rfl, he⟩
  obtain ⟨F5, hA5, hb5, hF5⟩ := he.up HB4.out HF4.out
  have HA5 := hid hA5; have HB5 := hid hb5; have HF5 := hid hF5
  clear he hA5 hb5 hF5
  go_wp2_with fail
  refine (push_more HA5.out ⟨#[99]⟩ 5 (by simp) (by omega)).mono ?_
  rintro e w6 ⟨rfl, he⟩
  obtain ⟨F6, hA6, hb6, hF6⟩ := he.up HB5.out HF5.out
  have HA6 := hid hA6; have HB6 := hid hb6; have HF6 := hid hF6
  clear he hA6 hb6 hF6
  go_wp2_with fail
  refine (push_full HA6.out ⟨#[100]⟩ 1 (by simp)).mono ?_
  rintro e w7 ⟨rfl, he⟩
  obtain ⟨F7, hA7, hb7, hF7⟩ := he.up HB6.out HF6.out
  have HA7 := hid hA7; have HB7 := hid hb7; have HF7 := hid hF7
  clear he hA7 hb7 hF7
  go_wp2_with fail
  refine (pop_any HA7.out (by omega)).mono ?_
  rintro e w8 ⟨rfl, he⟩
  have hv : peekV ([] ++ [⟨⟨#[97]⟩, 5, 0 + 1⟩] ++ [⟨⟨#[98]⟩, 2, 0 + 1 + 1⟩] ++ [⟨⟨#[99]⟩, 5, 0 + 1 + 1 + 1⟩]) = .tuple #[.string ⟨#[98]⟩, .int .i64 2, .bool true] := rfl
  rw [hv]
  obtain ⟨F8, hA8, hb8, hF8⟩ := he.up HB7.out HF7.out
  have HA8 := hid hA8; have HB8 := hid hb8; have HF8 := hid hF8
  clear he hA8 hb8 hF8 hv
  go_wp2_with fail
  refine (weigh_any HA8.out 3 4 (by unfold Is64; omega)).mono ?_
  rintro e w9 ⟨rfl, he⟩
  obtain ⟨F9, hA9, hb9, hF9⟩ := he.up HB8.out HF8.out
  have HA9 := hid hA9; have HB9 := hid hb9; have HF9 := hid hF9
  have hh9 : hasT (popL ([] ++ [⟨⟨#[97]⟩, 5, 0 + 1⟩] ++ [⟨⟨#[98]⟩, 2, 0 + 1 + 1⟩] ++ [⟨⟨#[99]⟩, 5, 0 + 1 + 1 + 1⟩])) 3 = true := rfl
  rw [hh9]
  clear he hA9 hb9 hF9 hh9
  go_wp2_with fail
  refine (weigh_any HA9.out 2 0 (by unfold Is64; omega)).mono ?_
  rintro e w10 ⟨rfl, he⟩
  have hh10 : hasT (weighT (popL ([] ++ [⟨⟨#[97]⟩, 5, 0 + 1⟩] ++ [⟨⟨#[98]⟩, 2, 0 + 1 + 1⟩] ++ [⟨⟨#[99]⟩, 5, 0 + 1 + 1 + 1⟩])) 3 4) 2 = false := rfl
  rw [hh10]
  obtain ⟨F1, hA1, hb1, hF1⟩ := he.up HB9.out HF9.out
  have hL2 : weighT (weighT (popL ([] ++ [⟨⟨#[97]⟩, 5, 0 + 1⟩] ++ [⟨⟨#[98]⟩, 2, 0 + 1 + 1⟩] ++ [⟨⟨#[99]⟩, 5, 0 + 1 + 1 + 1⟩])) 3 4) 2 0 = L2 := rfl
  rw [hL2] at hA1
  have HM : Hid (AgAt w10 A 3 3 L2 F1) := hid hA1
  have HLO := hid hb1; have HUP := hid hF1
  clear he hA1 hb1 hF1 hh10 hL2 HA HA4 HA5 HA6 HA7 HA8 HA9 HB1 HB2 HB4 HB5 HB6 HB7 HB8 HB9 HF HF4 HF5 HF6 HF7 HF8 HF9
  have hbt := alloc_below0 w10 (.cells #[.string ⟨#[]⟩] 9)
  have nbt := World.alloc_heap_new w10 (.cells #[.string ⟨#[]⟩] 9)
  have zbt := World.size_alloc w10 (.cells #[.string ⟨#[]⟩] 9)
  obtain ⟨Bt, hBt⟩ : ∃ Bt, w10.heap.size = Bt := ⟨_, rfl⟩
  have HBT := hid hBt
  rw [hBt] at nbt zbt hbt
  have cbt : (w10.alloc (.cells #[.string ⟨#[]⟩] 9)).cell? ⟨Bt, 0, none⟩ = some (.string ⟨#[]⟩) := cell_box nbt rfl
  have fbt : (w10.alloc (.cells #[.string ⟨#[]⟩] 9)).frozen? ⟨Bt, 0, none⟩ = false := free_box nbt
  go_wp2_with fail
  generalize w10.alloc (.cells #[.string ⟨#[]⟩] 9) = wb at hbt nbt zbt ⊢
  refine (allv_any A wb).mono ?_
  rintro e w5 ⟨rfl, h5⟩
  have hb5 := alloc_below0 wb (.cells #[.pointer (some ⟨A, 0, none⟩)] 23)
  have n5 := World.alloc_heap_new wb (.cells #[.pointer (some ⟨A, 0, none⟩)] 23)
  have z5 := World.size_alloc wb (.cells #[.pointer (some ⟨A, 0, none⟩)] 23)
  rw [← h5] at hb5 n5 z5
  clear h5
  have hfn : (binOp .eql 33 (.func (.func 28) #[] #[.pointer (some ⟨wb.heap.size, 0, none⟩)]) .nilFunc).run Try.prog w5 = .ok (.bool false) w5 := rfl
  rw [zbt] at z5 n5 hfn ⊢
  have HBX := hid (below_blk hb5 nbt); have HBA := hid n5; have HZ5 := hid z5
  have HLO5 := hid (hbt.trans (hb5.mono (by rw [zbt]; omega)))
  clear hbt nbt zbt hb5 n5 z5 hBt cbt fbt
  go_wp2_with fail
  refine (wpIn_wide (n := 20)).1 ?_
  refine range_law (n := 20) rfl (by omega) (gf := 28) (lb := #[.pointer (some ⟨Bt + 1, 0, none⟩)]) rfl trivial (enters_of Try.func28 (by kernel_rfl) rfl) ?_
  intro r hr1 hr2 hr3 hr4 hr5 hr6 hr7
  have c1 := alloc_below0 w5 (.deferred (some []))
  have d1 := World.alloc_heap_new w5 (.deferred (some []))
  have e1 := World.size_alloc w5 (.deferred (some []))
  generalize w5.alloc (.deferred (some [])) = w6 at c1 d1 e1 ⊢
  have c2 := alloc_below0 w6 (.loop r)
  have d2 := World.alloc_heap_new w6 (.loop r)
  have e2 := World.size_alloc w6 (.loop r)
  generalize w6.alloc (.loop r) = W1 at c2 d2 e2 ⊢
  rw [HZ5.out] at e1 d1 ⊢
  rw [e1] at e2 d2
  have lo15 : Below w5.heap.size w5 W1 := c1.trans (c2.mono (by rw [e1, HZ5.out]; omega))
  have df1 := below_blk c2 d1
  have bx1 := below_blk lo15 HBX.out
  have ba1 := below_blk lo15 HBA.out
  have loW : Below Bt w10 W1 := HLO5.out.trans (lo15.mono (by rw [HZ5.out]; omega))
  have hlow : Below w10.heap.size w10 W1 := by rw [HBT.out]; exact loW
  have ag1 := HM.out.below hlow
  have hFlt : ∀ b, F1 b → b < Bt := fun b hb => by have := HM.out.lt b hb; rw [HBT.out] at this; exact this
  have hwB : w.heap.size ≤ Bt := by have := HLO.out.size; rw [HBT.out] at this; exact this
  have hlowW : Below w.heap.size w W1 := HLO.out.trans (hlow.mono (by rw [HBT.out]; exact hwB))
  have HAG := hid ag1; have HDF := hid df1; have HFL := hid hFlt; have HLW := hid hlowW; have HE2 := hid e2
  clear c1 d1 e1 c2 lo15 loW hlow ag1 df1 hFlt hlowW
  refine (all_in 15 (Bt + 1 + 1 + 1) (Bt + 1) A _ _ L2 F1 (JN W1 Bt (Bt + 1 + 1) r) (fun _ => False) W1 HAG.out (cell_box ba1 rfl) ?_ ?_ ?_).mono ?_
  · intro W1' hb
    exact ⟨Fr.of_below hb, below_blk hb d2, hb.size, below_blk hb bx1⟩
  · intro V k W h
    exact ⟨h.fr.drew, h.lp, h.v1, h.bx⟩
  · rintro mm V k W t ht hj hV hV0
    have hE := HE2.out
    have fin : ∀ k' W5 a, Fr (fun b => b = Bt) (W.putObj (Bt + 1 + 1 + 1) (.loop { r with state := .busy })) W5 → W5.heap[Bt]? = some (.cells #[.string (told k')] 9 (0, 0)) → rndPost (Bt + 1 + 1 + 1) r (fun e W' => (∀ b, W1.heap.size ≤ b ∧ b < V ∨ F1 b → W'.heap[b]? = W.heap[b]?) ∧ V ≤ W'.heap.size ∧ (e = .returned (.bool true) ∧ JN W1 Bt (Bt + 1 + 1) r V k' W' ∨ e = .returned (.bool false) ∧ False)) .normal a W5 := fun k' W5 a hf hb => by
      obtain ⟨n1, n2, n3, n4⟩ := hj.next (by omega) hV W5 hf hb
      refine ⟨n1, ?_⟩
      rw [loop_again hr1 hr2]
      refine ⟨fun b hb => ?_, n3, .inl ⟨rfl, n4⟩⟩
      rcases hb with hb | hb
      · exact n2 b hb.2 (by omega) (by omega)
      · have := HFL.out b hb
        exact n2 b (by omega) (by omega) (by omega)
    have HFIN := hid fin
    have kb : (W.putObj (Bt + 1 + 1 + 1) (.loop { r with state := .busy })).heap[Bt]? = some (.cells #[.string (told k)] 9 (0, 0)) := (World.putObj_heap_other (by omega)).trans hj.bx
    have HKB := hid kb
    refine yield_by hr5 hr6 hr3 hr4 hj.lp hr1 rfl hr7 ?_
    have HJ := hid hj
    rw [all_L2] at ht
    clear hr3 hr4 hr5 hr6 hj fin kb
    simp only [List.zip_toArray, List.zip_cons_cons, List.zip_nil_right, List.foldl_toArray, List.foldl_cons, List.foldl_nil, List.setIfInBounds_toArray, List.set_cons_succ, List.set_cons_zero]
    gi_wp2
    refine ⟨HJ.out.lp, ?_⟩
    show Code.wpIn _ _ _ _ _ _ (W.putObj (Bt + 1 + 1 + 1) (.loop { r with state := .busy }))
    generalize W.putObj (Bt + 1 + 1 + 1) (.loop { r with state := .busy }) = Wb at HKB HFIN ⊢
    match k, ht with
    | 0, ht =>
      simp only [List.getElem?_cons_zero, Option.some.injEq] at ht
      subst ht
      have q1 : Wb.cell? ⟨Bt, 0, none⟩ = some (.string ⟨#[]⟩) := cell_box HKB.out rfl
      have q2 : Wb.frozen? ⟨Bt, 0, none⟩ = false := free_box HKB.out
      gi_wp2_with fail
      have e9 : (⟨#[]⟩ ++ ⟨#[51]⟩ ++ ⟨#[99]⟩ : ByteArray) = told 1 := rfl
      rw [e9]
      exact HFIN.out 1 _ _ ((fr_set _ _ _ _).trans (fr_set _ _ _ _)) (block_set (block_set HKB.out _) (.string (told 1)))
    | 1, ht =>
      simp only [List.getElem?_cons_succ, List.getElem?_cons_zero, Option.some.injEq] at ht
      subst ht
      have q1 : Wb.cell? ⟨Bt, 0, none⟩ = some (.string ⟨#[51, 99]⟩) := cell_box HKB.out rfl
      have q2 : Wb.frozen? ⟨Bt, 0, none⟩ = false := free_box HKB.out
      gi_wp2_with fail
      have e9 : (⟨#[51, 99]⟩ ++ ⟨#[97]⟩ : ByteArray) = told 2 := rfl
      rw [e9]
      exact HFIN.out 2 _ _ (fr_set _ _ _ _) (block_set HKB.out (.string (told 2)))
    | (n + 2), ht => simp at ht
  · rintro e W ⟨⟨v, rfl⟩, (⟨V, hj⟩ | hx)⟩
    · have hE := HE2.out
      have hV1 := hj.v1
      rw [all_L2] at hj
      have hbx : W.heap[Bt]? = some (.cells #[.string ⟨#[51, 99, 97]⟩] 9 (0, 0)) := hj.bx
      have hlt : Bt + 1 + 1 + 1 < W.heap.size := (Array.getElem?_eq_some_iff.1 hj.lp).1
      have dfW := (hj.fr.same (Bt + 1 + 1) (by omega) (by omega)).trans HDF.out
      refine ⟨⟨v, rfl⟩, dfW, .inl ⟨hj.lp, ?_⟩⟩
      have hPS : NS w (W.putObj (Bt + 1 + 1 + 1) (.loop { r with state := .exhausted })) Bt (Bt + 1 + 1) A 3 3 L2 F1 := by
        have f1 := fr_one (W := W) (Bt + 1 + 1 + 1) (.loop { r with state := .exhausted })
        refine ⟨(World.putObj_heap_other (by omega)).trans hbx, (World.putObj_heap_other (by omega)).trans dfW, (HAG.out.fr hj.fr (fun b hb hx => by have := HFL.out b hb; omega)).fr f1 (fun b hb hx => by have := HFL.out b hb; omega), ⟨fun hx => ?_, fun hx => ?_⟩, HUP.out, by omega, ?_⟩
        · have := HFL.out _ hx; omega
        · have := HFL.out _ hx; omega
        · exact (HLW.out.trans (hj.fr.below (fun b hb => by omega) (by omega))).trans (f1.below (fun b hb => by omega) (by omega))
      have HPS := hid hPS
      generalize W.putObj (Bt + 1 + 1 + 1) (.loop { r with state := .exhausted }) = W3 at HPS ⊢
      clear hr1 hr2 hr3 hr4 hr5 hr6 hr7 hj hbx dfW hPS hlt hE hV1 d2 bx1 ba1
      have HD1 := hid (drop_any HPS.out.ag 3 (by unfold Is64; omega))
      have hh1 : hasT L2 3 = true := rfl
      rw [hh1] at HD1
      clear hh1
      go_wp2_with fail
      refine HD1.out.mono ?_
      rintro e w11 ⟨rfl, he⟩
      obtain ⟨F11, hM11⟩ := HPS.out.op he
      have HM11 := hid hM11
      have HD2 := hid (drop_any hM11.ag 3 (by unfold Is64; omega))
      have hh2 : hasT (dropT L2 3) 3 = false := rfl
      rw [hh2] at HD2
      clear hh2 he hM11 HD1
      go_wp2_with fail
      refine HD2.out.mono ?_
      rintro e w12 ⟨rfl, he⟩
      obtain ⟨F12, hM12⟩ := HM11.out.op he
      have HM12 := hid hM12
      have HPU := hid (push_more hM12.ag ⟨#[100]⟩ 5 (by show (((1 : Nat) : Int)) < 3; omega) (by omega))
      clear he hM12 HD2
      go_wp2_with fail
      refine HPU.out.mono ?_
      rintro e w13 ⟨rfl, he⟩
      obtain ⟨F13, hM13⟩ := HM12.out.op he
      have HM13 := hid hM13
      have q1 : w13.cell? ⟨Bt, 0, none⟩ = some (.string ⟨#[51, 99, 97]⟩) := cell_box hM13.bx rfl
      have HLN := hid (aLen_any hM13.ag)
      rw [show (dropT (dropT L2 3) 3 ++ [(⟨⟨#[100]⟩, 5, 3 + 1⟩ : Th)]).length = 2 from rfl] at HLN
      clear he hM13 HPU
      go_wp2_with fail
      refine HLN.out.mono ?_
      rintro e w14 ⟨rfl, rfl⟩
      go_wp2_with fail
      refine ⟨by simp, .inl ⟨_, _, rfl, run_takeDeferred HM13.out.df, ?_⟩⟩
      exact ⟨_, results_tmp rfl _ _ _, rfl, HM13.out.low.trans ((fr_one (Bt + 1 + 1) _).below (fun b e => by have := HM13.out.ge; omega) HM13.out.low.size)⟩
    · exact hx.elim
end Go.Proofs.Ytchjdpmgocapjaa.S
