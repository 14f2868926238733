/- What the document's Less answers. -/
import Derived.Test.YtlbmamkkbpjafaaDDoc
namespace Go.Proofs.Ytlbmamkkbpjafaa
open Go.RowKit Go.Deep

set_option maxRecDepth 100000 in
set_option maxHeartbeats 8000000 in
theorem rless_any (p : Option Addr) (c : Nat) (l : List It) (q : Option Addr) (d : Nat) (m : List It) (w : World) (hO : w.ownsRow 0 60 3 (.slice p l.length c) l.length (itAll l)) (hQ : w.ownsRow 0 60 3 (.slice q m.length d) m.length (itAll m)) (hl : Bg l) (hm : Bg m) (hln : l.length ≤ 1048576) (hmn : m.length ≤ 1048576) :
    Calls Try.prog 19 #[.agg #[.slice p l.length c], .agg #[.slice q m.length d]] w (DocBag w (lessP l m)) := by
  obtain ⟨i0, hi0, hz0, hz1, hz2⟩ := info_parts Try.info60
  have b1 := alloc_below0 w (.cells #[.slice p l.length c] 27)
  have b2 := alloc_below0 (w.alloc (.cells #[.slice p l.length c] 27)) (.cells #[.slice q m.length d] 27)
  have b3 := alloc_below0 ((w.alloc (.cells #[.slice p l.length c] 27)).alloc (.cells #[.slice q m.length d] 27)) (.cells #[.slice none 0 0] 27)
  have b4 := alloc_below0 (((w.alloc (.cells #[.slice p l.length c] 27)).alloc (.cells #[.slice q m.length d] 27)).alloc (.cells #[.slice none 0 0] 27)) (.cells #[.slice none 0 0] 27)
  have n1 := World.alloc_heap_new w (.cells #[.slice p l.length c] 27)
  have n2 := World.alloc_heap_new (w.alloc (.cells #[.slice p l.length c] 27)) (.cells #[.slice q m.length d] 27)
  have n3 := World.alloc_heap_new ((w.alloc (.cells #[.slice p l.length c] 27)).alloc (.cells #[.slice q m.length d] 27)) (.cells #[.slice none 0 0] 27)
  have n4 := World.alloc_heap_new (((w.alloc (.cells #[.slice p l.length c] 27)).alloc (.cells #[.slice q m.length d] 27)).alloc (.cells #[.slice none 0 0] 27)) (.cells #[.slice none 0 0] 27)
  have N1 := (b4.block _ (Nat.lt_of_lt_of_le (Nat.lt_of_lt_of_le (Array.getElem?_eq_some_iff.1 n1).1 b2.size) b3.size)).trans ((b3.block _ (Nat.lt_of_lt_of_le (Array.getElem?_eq_some_iff.1 n1).1 b2.size)).trans ((b2.block _ (Array.getElem?_eq_some_iff.1 n1).1).trans n1))
  have N2 := (b4.block _ (Nat.lt_of_lt_of_le (Array.getElem?_eq_some_iff.1 n2).1 b3.size)).trans ((b3.block _ (Array.getElem?_eq_some_iff.1 n2).1).trans n2)
  have N3 := (b4.block _ (Array.getElem?_eq_some_iff.1 n3).1).trans n3
  have hB4 := ((b1.trans (b2.mono b1.size)).trans (b3.mono (Nat.le_trans b1.size b2.size))).trans (b4.mono (Nat.le_trans b1.size (Nat.le_trans b2.size b3.size)))
  have HO := hid hO; have HQ := hid hQ; have HB4 := hid hB4
  have hVs : ((((w.alloc (.cells #[.slice p l.length c] 27)).alloc (.cells #[.slice q m.length d] 27)).alloc (.cells #[.slice none 0 0] 27)).alloc (.cells #[.slice none 0 0] 27)).heap.size = w.heap.size + 1 + 1 + 1 + 1 := by simp only [World.size_alloc]
  simp only [World.size_alloc] at N2 N3 n4
  have HN1 := hid N1; have HN2 := hid N2; have HN3 := hid N3; have HN4 := hid n4
  clear b1 b2 b3 b4 n1 n2 n3 n4 N1 N2 N3 hO hQ hB4
  go_enter Try.func19, Try.ntmps19
  go_wp2_with fail
  generalize ((((w.alloc (.cells #[.slice p l.length c] 27)).alloc (.cells #[.slice q m.length d] 27)).alloc (.cells #[.slice none 0 0] 27)).alloc (.cells #[.slice none 0 0] 27)) = V at HB4 HN1 HN2 HN3 HN4 hVs ⊢
  generalize hY1 : w.heap.size = Y1 at HN1 HN2 HN3 HN4 hVs ⊢
  generalize hY2 : Y1 + 1 = Y2 at HN2 HN3 HN4 hVs ⊢
  generalize hY3 : Y2 + 1 = Y3 at HN3 HN4 hVs ⊢
  generalize hY4 : Y3 + 1 = Y4 at HN4 hVs ⊢
  have HYS : Hid (w.heap.size = Y1 ∧ Y1 + 1 = Y2 ∧ Y2 + 1 = Y3 ∧ Y3 + 1 = Y4 ∧ V.heap.size = Y4 + 1) := hid ⟨hY1, hY2, hY3, hY4, hVs⟩
  clear hY1 hY2 hY3 hY4 hVs
  go_loopw [6, 7] (fun iv _ wr => ∃ (i : Nat) (p' : Option Addr) (c' : Nat), iv = .int .i64 i ∧ i ≤ l.length ∧ wr.heap[Y4]? = some (.cells #[.slice p' (keepP (fun y => y.2 - cntK y.1.1 m) (l.take i)).length c'] 27 (0, 0)) ∧ wr.ownsRow V.heap.size 60 3 (.slice p' (keepP (fun y => y.2 - cntK y.1.1 m) (l.take i)).length c') (keepP (fun y => y.2 - cntK y.1.1 m) (l.take i)).length (itAll (keepP (fun y => y.2 - cntK y.1.1 m) (l.take i))) ∧ Below Y4 V wr) (fun iv _ _ => l.length - (intOf iv).toNat)
  case atStart => exact ⟨0, none, 0, rfl, Nat.zero_le _, HN4.out, World.ownsRow_nil _ _ _ _, Below.refl _ _⟩
  case round =>
    obtain ⟨i, p', c', rfl, hi, hbx, hrw, hbl⟩ := hrel
    have HBX := hid hbx; have HRW := hid hrw; have HBl := hid hbl
    have hYS := HYS.out
    have hWb : Below w.heap.size w wr := HB4.out.trans (hbl.mono (by omega))
    have hn1 : wr.heap[Y1]? = some (.cells #[.slice p l.length c] 27 (0, 0)) := (hbl.block Y1 (by omega)).trans HN1.out
    have hn2 : wr.heap[Y2]? = some (.cells #[.slice q m.length d] 27 (0, 0)) := (hbl.block Y2 (by omega)).trans HN2.out
    have y1 : wr.cell? ⟨Y1, 0, none⟩ = some (.slice p l.length c) := cell_box hn1 rfl
    have y2 : wr.cell? ⟨Y2, 0, none⟩ = some (.slice q m.length d) := cell_box hn2 rfl
    have HWB := hid hWb; have HN1r := hid hn1
    clear hbx hrw hbl hn1 hn2 hYS hWb
    by_cases hlt : i < l.length
    · have hkl := keepP_len (fun y => y.2 - cntK y.1.1 m) (l.take i)
      rw [List.length_take] at hkl
      have htk := keepP_take (fun y => y.2 - cntK y.1.1 m) l i hlt
      obtain ⟨b1, o1, hq1, e1, e2, e3⟩ := (its_of60 (owns60_below HO.out HWB.out)).cells i hlt
      subst hq1
      have hy1 := sumN_le l hl.pos i hlt
      have hls := hl.sum; have hms := hm.sum
      obtain ⟨y, hy⟩ : ∃ y, l[i] = y := ⟨_, rfl⟩
      rw [hy] at e1 e2 e3 htk hy1
      obtain ⟨⟨yk, ym⟩, yn⟩ := y
      dsimp only at e1 e2 e3 hy1 htk
      have hcb := cnt_bd hm.pos yk
      have HC : Hid (∀ W, Below wr.heap.size wr W → Calls Try.prog 15 #[.agg #[.slice q m.length d], .agg #[.int .i64 yk, .int .i64 ym]] W fun e w' => e = .returned (.int .i64 (cntK yk m)) ∧ Below W.heap.size W w') := hid fun W hW => rcount_any q d m (yk, ym) W (its_of60 (owns60_below (owns60_below HQ.out HWB.out) hW)) hmn
      generalize cntK yk m = cn at HC htk hcb
      generalize keepP (fun y => y.2 - cntK y.1.1 m) (l.take i) = acc at HBX HRW htk hkl
      have HTK := hid htk
      have HEC : Hid (∀ W, Below wr.heap.size wr W → W.cell? ⟨Y1, 0, none⟩ = some (.slice (some ⟨b1, o1, none⟩) l.length c) ∧ W.cell? ⟨b1, o1 + i * 3, none⟩ = some (.int .i64 yk) ∧ W.cell? ⟨b1, o1 + i * 3 + 1, none⟩ = some (.int .i64 ym)) := hid fun W hW => ⟨below_cell hW _ _ y1, below_cell hW _ _ e1, below_cell hW _ _ e2⟩
      have hiz : (i : Int) < (l.length : Int) := by omega
      clear htk hy
      go_wp2_with fail
      have hne := later_some wr
      have d0 := later_cell y1; have d1 := later_cell y2; have d2 := later_cell e1; have d3 := later_cell e2; have d4 := later_cell e3
      clear y1 y2 e1 e2 e3
      refine wp_region_later (by kernel_rfl) (by kernel_rfl) ?_
      repeat (go_big_quiet_step (first | (go_at_call 15; with_reducible refine calls_later (HC.out _ ?_); exact Later.below _) | fail))
      refine wpQuiet_nil ?_
      intro _ hw'
      obtain ⟨b5, hw''⟩ := hw'
      subst hw''
      obtain ⟨y1, e1, e2⟩ := HEC.out b5.now b5.below
      have HBX5 := hid ((b5.below.block Y4 (Array.getElem?_eq_some_iff.1 HBX.out).1).trans HBX.out)
      have HRW5 := hid (owns60_below HRW.out b5.below)
      have hvs : V.heap.size ≤ b5.now.heap.size := Nat.le_trans HBl.out.size b5.below.size
      have HB5 := hid (HBl.out.trans (b5.below.mono (by have := HYS.out; have := HBl.out.size; omega)))
      clear d0 d1 d2 d3 d4 hne HC HEC
      generalize b5.now = w5 at y1 e1 e2 HBX5 HRW5 hvs HB5 ⊢
      by_cases hf0 : 0 < yn - cn
      · rw [if_pos hf0] at HTK
        have r1 : w5.cell? ⟨Y4, 0, none⟩ = some (.slice p' acc.length c') := cell_box HBX5.out rfl
        have rf : w5.frozen? ⟨Y4, 0, none⟩ = false := by simp [World.frozen?, HBX5.out]
        have hY4l : Y4 < w5.heap.size := (Array.getElem?_eq_some_iff.1 HBX5.out).1
        have hpY : (Value.slice p' acc.length c').ownBlock ≠ some Y4 := fun e => by
          have h9 := (HRW5.out.lt Y4 e).1
          have := HYS.out
          omega
        generalize yn - cn = fy at hf0 HTK ⊢
        go_wp2_with fail
        go_region_law (refine step_append_lies _ (by rfl) (.tmp 33) (.tmp 42) 25 (by rfl) V.heap.size 60 i0 _ 3 24 Try.underlying25 hi0 hz0 hz1 hz2 rfl (by decide) (.slice p' acc.length c') acc.length (itAll acc) (by rfl) (owns60_below HRW5.out ((Below.refl _ w5).alloc (Nat.le_refl _) _).drew) ⟨w5.heap.size, 0, none⟩ 1 1 (itCells ((yk, ym), fy)) (by rfl) rfl (World.news_of_block (heap_alloc_new w5 _)) (itCells_one _) (by decide) (by unfold maxLen; omega) (by omega) (by simp; omega) _ rfl ?_; intro g4 cap4 w4 hown4 hgrow4 hat4 hlt4; have R4 : Hid (w4.heap[Y4]? = some (.cells #[.slice p' acc.length c'] 27 (0, 0))) := hid ((hgrow4.block Y4 (by simp; omega) (fun e => hpY e.symm)).trans (((alloc_below0 w5 _).drew.block Y4 hY4l).trans HBX5.out)); have r4 : w4.cell? ⟨Y4, 0, none⟩ = some (.slice p' acc.length c') := cell_box R4.out rfl; have rf4 : w4.frozen? ⟨Y4, 0, none⟩ = false := (by simp [World.frozen?, R4.out]); have HO4 := hid hown4; have HG4 := hid hgrow4; clear hown4 hgrow4 hat4)
        all_goals
          go_wp2_with fail
          have hYS := HYS.out
          have hg4 : V.heap.size ≤ g4 := (HO4.out.lt g4 rfl).1
          have hal := (alloc_below0 w5 (.cells #[.int .i64 yk, .int .i64 ym, .int .i64 fy] 60)).drew
          have hb6 := HB5.out.trans (hal.mono (by omega))
          have hb7 : Below Y4 V w4 := hb6.trans ((fr_grown HG4.out).below (fun k hk => by have := (HRW5.out.lt k hk).1; omega) (by have := hal.size; omega))
          have hla : (acc ++ [((yk, ym), fy)]).length = acc.length + 1 := by simp
          refine ⟨⟨i + 1, some ⟨g4, 0, none⟩, cap4, by go_num, by omega, ?_, ?_, hb7.setCell (p := ⟨Y4, 0, none⟩) (Nat.le_refl _) _⟩, by simp [intOf]; omega⟩
          · rw [HTK.out, hla]
            exact set1 R4.out
          · rw [HTK.out, hla, itAll_append, show itAll [((yk, ym), fy)] = itCells ((yk, ym), fy) from by show itCells _ ++ [] = _; rw [List.append_nil]]
            exact owns60_far HO4.out R4.out (by decide) _
      · rw [if_neg hf0, List.append_nil] at HTK
        go_wp2_with fail
        go_roundw
        case rel => exact ⟨i + 1, p', c', by go_num, by omega, by rw [HTK.out]; exact HBX5.out, by rw [HTK.out]; exact HRW5.out, HB5.out⟩
        case measure => simp [intOf]; omega
    · have ht : l.take i = l := List.take_of_length_le (by omega)
      rw [ht] at HRW HBX
      have y4 : wr.cell? ⟨Y4, 0, none⟩ = some (.slice p' (lessP l m).length c') := cell_box HBX.out rfl
      have hn3 : wr.heap[Y3]? = some (.cells #[.slice none 0 0] 27 (0, 0)) := (HBl.out.block Y3 (by have := HYS.out; omega)).trans HN3.out
      have y3 : wr.cell? ⟨Y3, 0, none⟩ = some (.slice none 0 0) := cell_box hn3 rfl
      have z3 : wr.frozen? ⟨Y3, 0, none⟩ = false := by simp [World.frozen?, hn3]
      have HN3r := hid hn3
      clear hn3
      go_wp2_with fail
      refine bodyPost_ret (results_c1 rfl rfl (load_bag (set1 HN3r.out))) rfl ⟨p', c', rfl, owns60_far (owns60_mono HRW.out (Nat.zero_le _)) HN3r.out (by decide) _, ?_⟩
      have hYS := HYS.out
      exact (HWB.out.setCell (p := ⟨Y3, 0, none⟩) (show w.heap.size ≤ Y3 by omega) _)
end Go.Proofs.Ytlbmamkkbpjafaa
