/- What the document's Part answers. -/
import Derived.Test.YtlbmamkkbpjafaaBInts
namespace Go.Proofs.Ytlbmamkkbpjafaa
open Go.RowKit Go.Deep

set_option maxRecDepth 100000 in
set_option maxHeartbeats 8000000 in
theorem rpart_any (p : Option Addr) (c : Nat) (l : List It) (q : Option Addr) (d base : Nat) (cs : List Int) (w : World) (hO : w.ownsRow 0 60 3 (.slice p l.length c) l.length (itAll l)) (hQ : CRow w base q d cs) (hs : Srt l) (hc : cs.length = l.length) (hln : l.length ≤ 1048576) :
    Calls Try.prog 28 #[.agg #[.slice p l.length c], .slice q cs.length d] w (DocBag w (partP l cs)) := by
  obtain ⟨i0, hi0, hz0, hz1, hz2⟩ := info_parts Try.info60
  have b1 := alloc_below0 w (.cells #[.slice p l.length c] 27)
  have b2 := alloc_below0 (w.alloc (.cells #[.slice p l.length c] 27)) (.cells #[.slice none 0 0] 27)
  have b3 := alloc_below0 ((w.alloc (.cells #[.slice p l.length c] 27)).alloc (.cells #[.slice none 0 0] 27)) (.cells #[.slice none 0 0] 27)
  have n1 := World.alloc_heap_new w (.cells #[.slice p l.length c] 27)
  have n2 := World.alloc_heap_new (w.alloc (.cells #[.slice p l.length c] 27)) (.cells #[.slice none 0 0] 27)
  have n3 := World.alloc_heap_new ((w.alloc (.cells #[.slice p l.length c] 27)).alloc (.cells #[.slice none 0 0] 27)) (.cells #[.slice none 0 0] 27)
  have N1 := (b3.block _ (Nat.lt_of_lt_of_le (Array.getElem?_eq_some_iff.1 n1).1 b2.size)).trans ((b2.block _ (Array.getElem?_eq_some_iff.1 n1).1).trans n1)
  have N2 := (b3.block _ (Array.getElem?_eq_some_iff.1 n2).1).trans n2
  have hB3 := (b1.trans (b2.mono b1.size)).trans (b3.mono (Nat.le_trans b1.size b2.size))
  have HO := hid hO; have HQ := hid hQ; have HB3 := hid hB3
  have hVs : (((w.alloc (.cells #[.slice p l.length c] 27)).alloc (.cells #[.slice none 0 0] 27)).alloc (.cells #[.slice none 0 0] 27)).heap.size = w.heap.size + 1 + 1 + 1 := by simp only [World.size_alloc]
  simp only [World.size_alloc] at N2 n3
  have HN1 := hid N1; have HN2 := hid N2; have HN3 := hid n3
  have HCL := hid hc
  clear b1 b2 b3 n1 n2 n3 N1 N2 hO hQ hB3
  generalize hcn : cs.length = nc at HCL
  rw [hcn] at hc
  subst hc
  go_enter Try.func28, Try.ntmps28
  go_wp2_with fail
  generalize (((w.alloc (.cells #[.slice p l.length c] 27)).alloc (.cells #[.slice none 0 0] 27)).alloc (.cells #[.slice none 0 0] 27)) = V at HB3 HN1 HN2 HN3 hVs ⊢
  generalize hY1 : w.heap.size = Y1 at HN1 HN2 HN3 hVs ⊢
  generalize hY2 : Y1 + 1 = Y2 at HN2 HN3 hVs ⊢
  generalize hY3 : Y2 + 1 = Y3 at HN3 hVs ⊢
  have HYS : Hid (w.heap.size = Y1 ∧ Y1 + 1 = Y2 ∧ Y2 + 1 = Y3 ∧ V.heap.size = Y3 + 1) := hid ⟨hY1, hY2, hY3, hVs⟩
  clear hY1 hY2 hY3 hVs
  have HCN := hid hcn
  clear hcn
  go_loopw [6] (fun iv wr => ∃ (i : Nat) (p' : Option Addr) (c' : Nat), iv = .int .i64 i ∧ i ≤ l.length ∧ wr.heap[Y3]? = some (.cells #[.slice p' (keepP (ptF l cs) (l.take i)).length c'] 27 (0, 0)) ∧ wr.ownsRow V.heap.size 60 3 (.slice p' (keepP (ptF l cs) (l.take i)).length c') (keepP (ptF l cs) (l.take i)).length (itAll (keepP (ptF l cs) (l.take i))) ∧ Below Y3 V wr) (fun iv _ => l.length - (intOf iv).toNat)
  case atStart => exact ⟨0, none, 0, rfl, Nat.zero_le _, HN3.out, World.ownsRow_nil _ _ _ _, Below.refl _ _⟩
  case round =>
    obtain ⟨i, p', c', rfl, hi, hbx, hrw, hbl⟩ := hrel
    have HBX := hid hbx; have HRW := hid hrw; have HBl := hid hbl
    have hYS := HYS.out
    have hWb : Below w.heap.size w wr := HB3.out.trans (hbl.mono (by omega))
    have hn1 : wr.heap[Y1]? = some (.cells #[.slice p l.length c] 27 (0, 0)) := (hbl.block Y1 (by omega)).trans HN1.out
    have y1 : wr.cell? ⟨Y1, 0, none⟩ = some (.slice p l.length c) := cell_box hn1 rfl
    have HWB := hid hWb
    clear hbx hrw hbl hn1 hYS hWb
    by_cases hlt : i < l.length
    · have hkl := keepP_len (ptF l cs) (l.take i)
      rw [List.length_take] at hkl
      have htk := keepP_take (ptF l cs) l i hlt
      obtain ⟨b1, o1, hq1, e1, e2, e3⟩ := (its_of60 (owns60_below HO.out HWB.out)).cells i hlt
      obtain ⟨g, hg1, _, _, ec⟩ := crow_cell (crow_below HQ.out HWB.out) i (by rw [HCN.out]; exact hlt)
      subst hq1 hg1
      have hpt := ptF_at (cs := cs) hs HCN.out i hlt
      obtain ⟨y, hy⟩ : ∃ y, l[i] = y := ⟨_, rfl⟩
      rw [hy] at e1 e2 e3 htk hpt
      rw [hpt] at htk
      obtain ⟨⟨yk, ym⟩, yn⟩ := y
      dsimp only at e1 e2 e3 htk
      generalize cs[i]'(by rw [HCN.out]; exact hlt) = fy at ec htk
      generalize keepP (ptF l cs) (l.take i) = acc at HBX HRW htk hkl
      have HTK := hid htk
      have hiz : (i : Int) < (l.length : Int) := by omega
      clear htk hy hpt e3
      by_cases hf0 : 0 < fy
      · rw [if_pos hf0] at HTK
        have r1 : wr.cell? ⟨Y3, 0, none⟩ = some (.slice p' acc.length c') := cell_box HBX.out rfl
        have rf : wr.frozen? ⟨Y3, 0, none⟩ = false := by simp [World.frozen?, HBX.out]
        have hY3l : Y3 < wr.heap.size := (Array.getElem?_eq_some_iff.1 HBX.out).1
        have hpY : (Value.slice p' acc.length c').ownBlock ≠ some Y3 := fun e => by
          have h9 := (HRW.out.lt Y3 e).1
          have := HYS.out
          omega
        have hvs : V.heap.size ≤ wr.heap.size := HBl.out.size
        go_wp2_with fail
        go_region_law (refine step_append_lies _ (by rfl) (.tmp 19) (.tmp 31) 25 (by rfl) V.heap.size 60 i0 _ 3 24 Try.underlying25 hi0 hz0 hz1 hz2 rfl (by decide) (.slice p' acc.length c') acc.length (itAll acc) (by rfl) (owns60_below HRW.out ((Below.refl _ wr).alloc (Nat.le_refl _) _).drew) ⟨wr.heap.size, 0, none⟩ 1 1 (itCells ((yk, ym), fy)) (by rfl) rfl (World.news_of_block (heap_alloc_new wr _)) (itCells_one _) (by decide) (by unfold maxLen; omega) (by omega) (by simp; omega) _ rfl ?_; intro g4 cap4 w4 hown4 hgrow4 hat4 hlt4; have R4 : Hid (w4.heap[Y3]? = some (.cells #[.slice p' acc.length c'] 27 (0, 0))) := hid ((hgrow4.block Y3 (by simp; omega) (fun e => hpY e.symm)).trans (((alloc_below0 wr _).drew.block Y3 hY3l).trans HBX.out)); have r4 : w4.cell? ⟨Y3, 0, none⟩ = some (.slice p' acc.length c') := cell_box R4.out rfl; have rf4 : w4.frozen? ⟨Y3, 0, none⟩ = false := (by simp [World.frozen?, R4.out]); have HO4 := hid hown4; have HG4 := hid hgrow4; clear hown4 hgrow4 hat4)
        all_goals
          go_wp2_with fail
          have hYS := HYS.out
          have hg4 : V.heap.size ≤ g4 := (HO4.out.lt g4 rfl).1
          have hal := (alloc_below0 wr (.cells #[.int .i64 yk, .int .i64 ym, .int .i64 fy] 60)).drew
          have hb6 := HBl.out.trans (hal.mono (by omega))
          have hb7 : Below Y3 V w4 := hb6.trans ((fr_grown HG4.out).below (fun k hk => by have := (HRW.out.lt k hk).1; omega) (by have := hal.size; omega))
          have hla : (acc ++ [((yk, ym), fy)]).length = acc.length + 1 := by simp
          refine ⟨⟨i + 1, some ⟨g4, 0, none⟩, cap4, by go_num, by omega, ?_, ?_, hb7.setCell (p := ⟨Y3, 0, none⟩) (Nat.le_refl _) _⟩, by simp [intOf]; omega⟩
          · rw [HTK.out, hla]
            exact set1 R4.out
          · rw [HTK.out, hla, itAll_append, show itAll [((yk, ym), fy)] = itCells ((yk, ym), fy) from by show itCells _ ++ [] = _; rw [List.append_nil]]
            exact owns60_far HO4.out R4.out (by decide) _
      · rw [if_neg hf0, List.append_nil] at HTK
        go_wp2_with fail
        go_roundw
        case rel => exact ⟨i + 1, p', c', by go_num, by omega, by rw [HTK.out]; exact HBX.out, by rw [HTK.out]; exact HRW.out, HBl.out⟩
        case measure => simp [intOf]; omega
    · have ht : l.take i = l := List.take_of_length_le (by omega)
      rw [ht] at HRW HBX
      have y3 : wr.cell? ⟨Y3, 0, none⟩ = some (.slice p' (partP l cs).length c') := cell_box HBX.out rfl
      have hn2 : wr.heap[Y2]? = some (.cells #[.slice none 0 0] 27 (0, 0)) := (HBl.out.block Y2 (by have := HYS.out; omega)).trans HN2.out
      have y2 : wr.cell? ⟨Y2, 0, none⟩ = some (.slice none 0 0) := cell_box hn2 rfl
      have z2 : wr.frozen? ⟨Y2, 0, none⟩ = false := by simp [World.frozen?, hn2]
      have HN2r := hid hn2
      clear hn2
      go_wp2_with fail
      refine bodyPost_ret (results_c1 rfl rfl (load_bag (set1 HN2r.out))) rfl ⟨p', c', rfl, owns60_far (owns60_mono HRW.out (Nat.zero_le _)) HN2r.out (by decide) _, ?_⟩
      have hYS := HYS.out
      exact (HWB.out.setCell (p := ⟨Y2, 0, none⟩) (show w.heap.size ≤ Y2 by omega) _)
end Go.Proofs.Ytlbmamkkbpjafaa
