/- The walk of PickNames. -/
import Derived.Test.YteakakonjfcpmaaDoorPkSame
namespace Go.Proofs.YteakakonjfcpmaaDoor
open Go.RowKit Go.Shelf

def three : List (List Int) := [[1, 1, 0], [0, 1, 1], [1, 0, 2]]
theorem nm1 : fitL three [1, 1, 1] = [3, 5, 6, 7] := by decide +kernel
theorem nm2 : listE three [1, 1, 1] 4 = 0 := by decide +kernel
theorem nm3 : fitL three [2, 1, 0] = [1, 3, 6] := by decide +kernel
theorem nm4 : listE three [2, 1, 0] 3 = 0 := by decide +kernel
theorem nm5 : listE three [0, 0, 0] 7 = 2 := by decide +kernel
theorem nm6 : sumE three [0, 0, 0] 8 = 1 := by decide +kernel
theorem nm7 : sumE three [0, 0, 0] 5 = 0 := by decide +kernel
theorem nm8 : sumTo 5 three 3 3 = [2, 1, 2] := by decide +kernel
theorem nm9 : pkE (List.replicate 17 []) [] = 101 := by decide +kernel
theorem nm10 : pkE [] [3] = 102 := by decide +kernel
theorem nm11 : pkE [[1]] [] = 103 := by decide +kernel
theorem three_start (w W : World) (hW : W = (((w.alloc (.cells #[.int .i64 1, .int .i64 1, .int .i64 0] 3)).alloc (.cells #[.int .i64 0, .int .i64 1, .int .i64 1] 3)).alloc (.cells #[.int .i64 1, .int .i64 0, .int .i64 2] 3)).alloc (.cells #[.slice (some ⟨w.heap.size, 0, none⟩) 3 3, .slice (some ⟨w.heap.size + 1, 0, none⟩) 3 3, .slice (some ⟨w.heap.size + 1 + 1, 0, none⟩) 3 3] 29)) :
    Below w.heap.size w W ∧ RowsAt W (some ⟨w.heap.size + 1 + 1 + 1, 0, none⟩) three := by
  have b1 := alloc_below0 w (.cells #[.int .i64 1, .int .i64 1, .int .i64 0] 3)
  have n1 := World.alloc_heap_new w (.cells #[.int .i64 1, .int .i64 1, .int .i64 0] 3)
  have s1 := World.size_alloc w (.cells #[.int .i64 1, .int .i64 1, .int .i64 0] 3)
  generalize w.alloc (.cells #[.int .i64 1, .int .i64 1, .int .i64 0] 3) = A1 at b1 n1 s1 hW
  have b2 := alloc_below0 A1 (.cells #[.int .i64 0, .int .i64 1, .int .i64 1] 3)
  have n2 := World.alloc_heap_new A1 (.cells #[.int .i64 0, .int .i64 1, .int .i64 1] 3)
  have s2 := World.size_alloc A1 (.cells #[.int .i64 0, .int .i64 1, .int .i64 1] 3)
  generalize A1.alloc (.cells #[.int .i64 0, .int .i64 1, .int .i64 1] 3) = A2 at b2 n2 s2 hW
  have b3 := alloc_below0 A2 (.cells #[.int .i64 1, .int .i64 0, .int .i64 2] 3)
  have n3 := World.alloc_heap_new A2 (.cells #[.int .i64 1, .int .i64 0, .int .i64 2] 3)
  have s3 := World.size_alloc A2 (.cells #[.int .i64 1, .int .i64 0, .int .i64 2] 3)
  generalize A2.alloc (.cells #[.int .i64 1, .int .i64 0, .int .i64 2] 3) = A3 at b3 n3 s3 hW
  have b4 := alloc_below0 A3 (.cells #[.slice (some ⟨w.heap.size, 0, none⟩) 3 3, .slice (some ⟨w.heap.size + 1, 0, none⟩) 3 3, .slice (some ⟨w.heap.size + 1 + 1, 0, none⟩) 3 3] 29)
  have n4 := World.alloc_heap_new A3 (.cells #[.slice (some ⟨w.heap.size, 0, none⟩) 3 3, .slice (some ⟨w.heap.size + 1, 0, none⟩) 3 3, .slice (some ⟨w.heap.size + 1 + 1, 0, none⟩) 3 3] 29)
  rw [← hW] at b4 n4
  rw [s3, s2, s1] at n4
  rw [s2, s1] at n3
  rw [s1] at n2
  refine ⟨b1.trans ((b2.mono (by omega)).trans ((b3.mono (by omega)).trans (b4.mono (by omega)))), by unfold maxLen three; simp, fun i hi => ?_⟩
  match i, hi with
  | 0, _ => exact ⟨_, 0, _, _, rfl, cell_box n4 rfl, lit_ints (ns := [1, 1, 0]) ((b4.block _ (by omega)).trans ((b3.block _ (by omega)).trans ((b2.block _ (by omega)).trans n1))) (by decide)⟩
  | 1, _ => exact ⟨_, 0, _, _, rfl, cell_box n4 rfl, lit_ints (ns := [0, 1, 1]) ((b4.block _ (by omega)).trans ((b3.block _ (by omega)).trans n2)) (by decide)⟩
  | 2, _ => exact ⟨_, 0, _, _, rfl, cell_box n4 rfl, lit_ints (ns := [1, 0, 2]) ((b4.block _ (by omega)).trans n3) (by decide)⟩
set_option maxRecDepth 100000 in
theorem three_any (w : World) : Calls Tryd.prog 10 #[] w fun e w' => ∃ p, e = .returned (.slice p 3 3) ∧ RowsAt w' p three ∧ Below w.heap.size w w' := by
  obtain ⟨hb, hr⟩ := three_start w _ rfl
  have HB := hid hb; have HR := hid hr
  clear hb hr
  go_enter Tryd.func10, Tryd.ntmps10
  go_wp2_with fail
  go_ret
  exact ⟨_, rfl, HR.out, HB.out⟩
/-- A literal of numbers, and what lies below. -/
theorem lit_new (w : World) (ns : List Int) (cs : Array Value) (hc : cs = (cAll ns).toArray) (hs : ns.length ≤ 100) : IntsAt (w.alloc (.cells cs 3)) (some ⟨w.heap.size, 0, none⟩) ns ∧ Below w.heap.size w (w.alloc (.cells cs 3)) := by
  subst hc
  exact ⟨lit_ints (World.alloc_heap_new w _) (by unfold maxLen; omega), alloc_below0 w _⟩
theorem litm_new (w : World) (ms : List Int) (cs : Array Value) (hc : cs = (ms.map (Value.int .u32)).toArray) (hs : ms.length ≤ 100) : MsAt (w.alloc (.cells cs 32)) (some ⟨w.heap.size, 0, none⟩) ms ∧ Below w.heap.size w (w.alloc (.cells cs 32)) := by
  subst hc
  exact ⟨lit_masks (World.alloc_heap_new w _) (by unfold maxLen; omega), alloc_below0 w _⟩
theorem no_ints (w : World) : IntsAt w none [] := ⟨Nat.zero_le _, fun i hi => absurd hi (Nat.not_lt_zero i)⟩
theorem no_rows (w : World) : RowsAt w none [] := ⟨Nat.zero_le _, fun i hi => absurd hi (Nat.not_lt_zero i)⟩
theorem made_rows {W : World} {V n base : Nat} (h : W.ownsRow base 29 1 (.slice (some ⟨V, 0, none⟩) n n) n (madeCells (Value.slice none 0 0).cells (n * 1)).toList) : RowsAt W (some ⟨V, 0, none⟩) (List.replicate n []) := by
  rcases h.2 with ⟨hv, _⟩ | ⟨g, cap, cur, hv, _, hh, h3, h4, hcs, ht⟩
  · cases hv
  · cases hv
    refine ⟨by simpa using h4, fun i hi => ?_⟩
    rw [List.length_replicate] at hi
    refine ⟨V, 0, none, 0, rfl, ?_, ?_⟩
    · have e1 : cur.toList = List.replicate n (.slice none 0 0) := by
        rw [show (Value.slice none 0 0).cells = #[.slice none 0 0] from rfl, toList_madeCells_one, Nat.mul_one] at ht
        rw [← ht, List.take_of_length_le (by simp [hcs])]
      rw [cell_of_row W V _ _ 29 (0, 0) hh, Nat.zero_add]
      have e2 : cur[i]? = cur.toList[i]? := by simp
      rw [e2, e1, List.getElem?_replicate, if_pos hi]
      simp
    · simp only [List.getElem_replicate]
      exact no_ints W
set_option maxRecDepth 100000 in
set_option maxHeartbeats 8000000 in
theorem pickNames_walk (w : World) (hT : Tab w) : Calls Tryd.prog 3 #[] w fun e w' => e = .returned (.bool true) ∧ Below w.heap.size w w' := by
  obtain ⟨i9, hi9, hz0, hz1, hz2⟩ := info_parts Tryd.info29
  have HT := hid hT
  clear hT
  go_enter Tryd.func3, Tryd.ntmps3
  go_wp2_with fail
  refine (lives_any w HT.out).mono ?_
  rintro e w1 ⟨rfl, hb1⟩
  have HB1 := hid hb1
  clear hb1
  go_wp2_with fail
  refine (three_any w1).mono ?_
  rintro e w2 ⟨p2, rfl, hr2, hb2⟩
  obtain ⟨hi3, hb3⟩ := lit_new w2 [1, 1, 1] #[.int .i64 1, .int .i64 1, .int .i64 1] rfl (by decide)
  have HB3 := hid ((HB1.out.trans (hb2.mono HB1.out.size)).trans (hb3.mono (Nat.le_trans HB1.out.size hb2.size)))
  have HL1 := hid (list_any p2 3 three _ 3 [1, 1, 1] 4 _ (hr2.below hb3) hi3 (HT.out.below HB3.out))
  clear hi3 hb3 hr2 hb2
  go_wp2_with fail
  generalize w2.alloc (.cells #[.int .i64 1, .int .i64 1, .int .i64 1] 3) = w3 at HB3 HL1 ⊢
  refine HL1.out.mono ?_
  rintro e w4 ⟨hb4, (⟨h0, _⟩ | ⟨_, v, rfl, hz⟩)⟩
  · exact absurd nm2 h0
  rw [nm1] at hz
  obtain ⟨pa, ca, rfl⟩ := hz.form
  have HMA := hid (hz.masks (by decide))
  have HB4 := hid (HB3.out.trans (hb4.mono HB3.out.size))
  clear hz hb4 HL1
  go_wp2_with fail
  refine (three_any w4).mono ?_
  rintro e w5 ⟨p5, rfl, hr5, hb5⟩
  obtain ⟨hi6, hb6⟩ := lit_new w5 [2, 1, 0] #[.int .i64 2, .int .i64 1, .int .i64 0] rfl (by decide)
  have HB6 := hid (hb5.trans (hb6.mono hb5.size))
  have HW6 := hid (HB4.out.trans (HB6.out.mono HB4.out.size))
  have HL2 := hid (list_any p5 3 three _ 3 [2, 1, 0] 3 _ (hr5.below hb6) hi6 (HT.out.below HW6.out))
  clear hi6 hb6 hr5 hb5
  go_wp2_with fail
  generalize w5.alloc (.cells #[.int .i64 2, .int .i64 1, .int .i64 0] 3) = w6 at HB6 HW6 HL2 ⊢
  refine HL2.out.mono ?_
  rintro e w7 ⟨hb7, (⟨h0, _⟩ | ⟨_, v, rfl, hz⟩)⟩
  · exact absurd nm4 h0
  rw [nm3] at hz
  obtain ⟨pb, cb, rfl⟩ := hz.form
  have HMB := hid (hz.masks (by decide))
  have HMA7 := hid (HMA.out.below (HB6.out.trans (hb7.mono HB6.out.size)))
  have HW7 := hid (HW6.out.trans (hb7.mono HW6.out.size))
  clear hz hb7 HL2 HMA HB6 HW6 HB4 HB3 HB1
  go_wp2_with fail
  refine (three_any w7).mono ?_
  rintro e w8 ⟨p8, rfl, hr8, hb8⟩
  obtain ⟨hi9', hb9⟩ := lit_new w8 [0, 0, 0] #[.int .i64 0, .int .i64 0, .int .i64 0] rfl (by decide)
  have HB9 := hid (hb8.trans (hb9.mono hb8.size))
  have HW9 := hid (HW7.out.trans (HB9.out.mono HW7.out.size))
  have HL3 := hid (list_any p8 3 three _ 3 [0, 0, 0] 7 _ (hr8.below hb9) hi9' (HT.out.below HW9.out))
  clear hi9' hb9 hr8 hb8
  go_wp2_with fail
  generalize w8.alloc (.cells #[.int .i64 0, .int .i64 0, .int .i64 0] 3) = w9 at HB9 HW9 HL3 ⊢
  refine HL3.out.mono ?_
  rintro e w10 ⟨hb10, (⟨_, rfl⟩ | ⟨h0, _⟩)⟩
  rotate_left
  · rw [nm5] at h0
    cases h0
  rw [nm5]
  have HX10 := hid (HB9.out.trans (hb10.mono HB9.out.size))
  have HW10 := hid (HW7.out.trans (HX10.out.mono HW7.out.size))
  have HMA10 := hid (HMA7.out.below HX10.out)
  have HMB10 := hid (HMB.out.below HX10.out)
  clear hb10 HL3 HB9 HW9 HX10 HMA7 HMB HW7
  go_wp2_with fail
  refine (three_any w10).mono ?_
  rintro e w11 ⟨p11, rfl, hr11, hb11⟩
  obtain ⟨hi12, hb12⟩ := lit_new w11 [0, 0, 0] #[.int .i64 0, .int .i64 0, .int .i64 0] rfl (by decide)
  have HB12 := hid (hb11.trans (hb12.mono hb11.size))
  have HL4 := hid (psum_any p11 3 three _ 3 [0, 0, 0] 8 _ (hr11.below hb12) hi12)
  clear hi12 hb12 hr11 hb11
  go_wp2_with fail
  generalize w11.alloc (.cells #[.int .i64 0, .int .i64 0, .int .i64 0] 3) = w12 at HB12 HL4 ⊢
  refine HL4.out.mono ?_
  intro e w13 hend
  obtain ⟨hb13, ⟨_, rfl⟩ | ⟨h0, _⟩⟩ := sum_form hend
  rotate_left
  · rw [nm6] at h0
    cases h0
  rw [nm6]
  have HX13 := hid (HB12.out.trans (hb13.mono HB12.out.size))
  have HW13 := hid (HW10.out.trans (HX13.out.mono HW10.out.size))
  have HMA13 := hid (HMA10.out.below HX13.out)
  have HMB13 := hid (HMB10.out.below HX13.out)
  clear hb13 hend HL4 HB12 HX13 HMA10 HMB10 HW10
  go_wp2_with fail
  refine (three_any w13).mono ?_
  rintro e w14 ⟨p14, rfl, hr14, hb14⟩
  obtain ⟨hi15, hb15⟩ := lit_new w14 [0, 0, 0] #[.int .i64 0, .int .i64 0, .int .i64 0] rfl (by decide)
  have HB15 := hid (hb14.trans (hb15.mono hb14.size))
  have HL5 := hid (psum_any p14 3 three _ 3 [0, 0, 0] 5 _ (hr14.below hb15) hi15)
  clear hi15 hb15 hr14 hb14
  go_wp2_with fail
  generalize w14.alloc (.cells #[.int .i64 0, .int .i64 0, .int .i64 0] 3) = w15 at HB15 HL5 ⊢
  refine HL5.out.mono ?_
  intro e w16 hend
  obtain ⟨hb16, ⟨h0, _⟩ | ⟨_, _, _, V, _, rfl, hI⟩⟩ := sum_form hend
  · exact absurd nm7 h0
  have hI2 : IRow w16 V [2, 1, 2] := by rw [← nm8]; exact hI
  have HX16 := hid (HB15.out.trans (hb16.mono HB15.out.size))
  have HW16 := hid (HW13.out.trans (HX16.out.mono HW13.out.size))
  have HMA16 := hid (HMA13.out.below HX16.out)
  have HMB16 := hid (HMB13.out.below HX16.out)
  have HII := hid (hI2.ints (by decide))
  clear hb16 hend HL5 HB15 HX16 HMA13 HMB13 HW13 hI hI2
  have hmk := run_make (P := Tryd.prog) w16 27 29 i9 _ Tryd.underlying27 hi9 hz0 .i64 .i64 (17 : Int) (17 : Int) (by decide) (by decide) (by rw [hz2]; decide) (by decide)
  rw [hz1] at hmk
  have hr17 : RowsAt (w16.alloc (.cells (madeCells (Value.slice none 0 0).cells (17 * 1)) 29)) (some ⟨w16.heap.size, 0, none⟩) (List.replicate 17 []) :=
    made_rows (base := w16.heap.size) ⟨by rw [Array.length_toList, size_madeCells], .inr ⟨w16.heap.size, 17, _, rfl, Nat.le_refl _, World.alloc_heap_new w16 _, Nat.le_refl _, by unfold maxLen; omega, by rw [size_madeCells], by rw [List.take_of_length_le (by rw [Array.length_toList, size_madeCells]; exact Nat.le_refl _)]⟩⟩
  have hb17 := alloc_below0 w16 (.cells (madeCells (Value.slice none 0 0).cells (17 * 1)) 29)
  have HCK := hid (pcheck_any _ 17 _ none 0 [] _ hr17 (no_ints _))
  have hmk' : (Instr.makeSlice 27 (.int .i64 17) (.int .i64 17)).run Tryd.prog w16 = .ok (.slice (some ⟨w16.heap.size, 0, none⟩) 17 17) (w16.alloc (.cells (madeCells (Value.slice none 0 0).cells (17 * 1)) 29)) := hmk
  rw [nm9] at HCK
  have HB17 := hid hb17
  clear hmk hr17 hb17
  generalize w16.alloc (.cells (madeCells (Value.slice none 0 0).cells (17 * 1)) 29) = w17 at hmk' HCK HB17
  go_wp2_with fail
  refine HCK.out.mono ?_
  intro e w18 h1
  obtain ⟨rfl, h2⟩ := h1
  rw [h2]
  clear h2 HCK hmk'
  obtain ⟨hi19, hb19⟩ := lit_new w17 [3] #[.int .i64 3] rfl (by decide)
  have HC2 := hid (pcheck_any none 0 [] _ 1 [3] _ (no_rows _) hi19)
  rw [nm10] at HC2
  have HB19 := hid hb19
  clear hi19 hb19
  go_wp2_with fail
  generalize w17.alloc (.cells #[.int .i64 3] 3) = w19 at HB19 HC2 ⊢
  refine HC2.out.mono ?_
  intro e w20 h1
  obtain ⟨rfl, h2⟩ := h1
  rw [h2]
  clear h2 HC2
  obtain ⟨hi21, hb21⟩ := lit_new w19 [1] #[.int .i64 1] rfl (by decide)
  have hn22 := World.alloc_heap_new (w19.alloc (.cells #[.int .i64 1] 3)) (.cells #[.slice (some ⟨w19.heap.size, 0, none⟩) 1 1] 29)
  have hb22 := alloc_below0 (w19.alloc (.cells #[.int .i64 1] 3)) (.cells #[.slice (some ⟨w19.heap.size, 0, none⟩) 1 1] 29)
  have hs22 := World.size_alloc w19 (.cells #[.int .i64 1] 3)
  rw [hs22] at hn22
  have hr22 : RowsAt ((w19.alloc (.cells #[.int .i64 1] 3)).alloc (.cells #[.slice (some ⟨w19.heap.size, 0, none⟩) 1 1] 29)) (some ⟨w19.heap.size + 1, 0, none⟩) [[1]] := ⟨by unfold maxLen; simp, fun i hi => by
    match i, hi with
    | 0, _ => exact ⟨_, 0, _, _, rfl, cell_box hn22 rfl, hi21.below hb22⟩⟩
  have HC3 := hid (pcheck_any _ 1 _ none 0 [] _ hr22 (no_ints _))
  rw [nm11] at HC3
  have HB22 := hid (hb21.trans (hb22.mono hb21.size))
  clear hi21 hb21 hn22 hb22 hs22 hr22
  go_wp2_with fail
  generalize (w19.alloc (.cells #[.int .i64 1] 3)).alloc (.cells #[.slice (some ⟨w19.heap.size, 0, none⟩) 1 1] 29) = w22 at HB22 HC3 ⊢
  refine HC3.out.mono ?_
  intro e w23 h1
  obtain ⟨rfl, h2⟩ := h1
  rw [h2]
  clear h2 HC3
  have HX22 := hid (HB17.out.trans ((HB19.out.trans (HB22.out.mono HB19.out.size)).mono HB17.out.size))
  have HW22 := hid (HW16.out.trans (HX22.out.mono HW16.out.size))
  have HMA22 := hid (HMA16.out.below HX22.out)
  have HMB22 := hid (HMB16.out.below HX22.out)
  have HI22 := hid (HII.out.below HX22.out)
  clear HB17 HB19 HB22 HX22 HW16 HMA16 HMB16 HII
  obtain ⟨hm24, hb24⟩ := litm_new w22 [3, 5, 6, 7] #[.int .u32 3, .int .u32 5, .int .u32 6, .int .u32 7] rfl (by decide)
  have HS1 := hid (samem_any pa ca (mInt [3, 5, 6, 7]) _ 4 [3, 5, 6, 7] _ (HMA22.out.below hb24) hm24)
  have HB24 := hid hb24
  clear hm24 hb24
  go_wp2_with fail
  generalize w22.alloc (.cells #[.int .u32 3, .int .u32 5, .int .u32 6, .int .u32 7] 32) = w24 at HB24 HS1 ⊢
  refine HS1.out.mono ?_
  rintro e w25 ⟨rfl, hb25⟩
  rw [show decide (mInt [3, 5, 6, 7] = [3, 5, 6, 7]) = true from by decide]
  have HX25 := hid (HB24.out.trans (hb25.mono HB24.out.size))
  have HW25 := hid (HW22.out.trans (HX25.out.mono HW22.out.size))
  have HMB25 := hid (HMB22.out.below HX25.out)
  have HI25 := hid (HI22.out.below HX25.out)
  clear HB24 hb25 HS1 HX25 HMA22 HMB22 HI22 HW22
  obtain ⟨hm26, hb26⟩ := litm_new w25 [1, 3, 6] #[.int .u32 1, .int .u32 3, .int .u32 6] rfl (by decide)
  have HS2 := hid (samem_any pb cb (mInt [1, 3, 6]) _ 3 [1, 3, 6] _ (HMB25.out.below hb26) hm26)
  have HB26 := hid hb26
  clear hm26 hb26
  go_wp2_with fail
  generalize w25.alloc (.cells #[.int .u32 1, .int .u32 3, .int .u32 6] 32) = w26 at HB26 HS2 ⊢
  refine HS2.out.mono ?_
  rintro e w27 ⟨rfl, hb27⟩
  rw [show decide (mInt [1, 3, 6] = [1, 3, 6]) = true from by decide]
  have HX27 := hid (HB26.out.trans (hb27.mono HB26.out.size))
  have HW27 := hid (HW25.out.trans (HX27.out.mono HW25.out.size))
  have HI27 := hid (HI25.out.below HX27.out)
  clear HB26 hb27 HS2 HX27 HMB25 HI25 HW25
  obtain ⟨hi28, hb28⟩ := lit_new w27 [2, 1, 2] #[.int .i64 2, .int .i64 1, .int .i64 2] rfl (by decide)
  have HS3 := hid (same_any _ 3 [2, 1, 2] _ 3 [2, 1, 2] _ (HI27.out.below hb28) hi28)
  have HB28 := hid (HW27.out.trans (hb28.mono HW27.out.size))
  clear hi28 hb28
  go_wp2_with fail
  generalize w27.alloc (.cells #[.int .i64 2, .int .i64 1, .int .i64 2] 3) = w28 at HB28 HS3 ⊢
  refine HS3.out.mono ?_
  rintro e w29 ⟨rfl, hb29⟩
  simp only [decide_true]
  have HW29 := hid (HB28.out.trans (hb29.mono HB28.out.size))
  clear hb29 HS3
  go_wp2_with fail
  go_ret
  exact ⟨rfl, HW29.out⟩
end Go.Proofs.YteakakonjfcpmaaDoor
