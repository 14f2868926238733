/- What the document's Join answers. -/
import Derived.Test.YtlbmamkkbpjafaaDDoc
namespace Go.Proofs.Ytlbmamkkbpjafaa
open Go.RowKit Go.Deep

theorem addI_take (l m : List It) (i : Nat) (h : i < m.length) : (m.take (i + 1)).foldl addI l = addI ((m.take i).foldl addI l) m[i] := by rw [List.take_succ_eq_append_getElem h, List.foldl_append]; rfl
theorem fold_can {l m : List It} (hl : Bg l) : m.foldl addI l = canB (l ++ m) := by rw [canB_app, canB_srt hl.srt hl.pos]
theorem fold_facts {l m : List It} (hl : Bg l) (hm : Bg m) (i : Nat) : Srt ((m.take i).foldl addI l) ∧ (∀ y ∈ (m.take i).foldl addI l, 1 ≤ y.2) ∧ sumN ((m.take i).foldl addI l) ≤ sumN l + sumN m := by
  have hp : ∀ y ∈ l ++ m.take i, 1 ≤ y.2 := fun y hy => (List.mem_append.1 hy).elim (hl.pos y) (fun h => hm.pos y (List.mem_of_mem_take h))
  have c := can_facts hp
  rw [fold_can hl]
  refine ⟨c.1, c.2.1, ?_⟩
  rw [c.2.2.1, sumN_app]
  have := (sumN_bd m hm.pos i).2
  omega
theorem cell_far {W : World} {Y k b o : Nat} {u : Value} (hne : b ≠ Y) (h : W.cell? ⟨b, o, none⟩ = some u) (v : Value) : (W.setCell ⟨Y, k, none⟩ v).cell? ⟨b, o, none⟩ = some u := by
  have hs := set_far (W := W) (g := Y) (i := k) (q := b) hne v
  simp only [World.cell?] at h ⊢
  rw [hs]
  exact h
set_option maxRecDepth 100000 in
set_option maxHeartbeats 8000000 in
theorem rjoin_any (p : Option Addr) (c : Nat) (l : List It) (q : Option Addr) (d : Nat) (m : List It) (w : World) (hO : w.ownsRow 0 60 3 (.slice p l.length c) l.length (itAll l)) (hQ : w.ownsRow 0 60 3 (.slice q m.length d) m.length (itAll m)) (hl : Bg l) (hm : Bg m) (hs : sumN l + sumN m ≤ 1048576) :
    Calls Try.prog 17 #[.agg #[.slice p l.length c], .agg #[.slice q m.length d]] w (DocBag w (canB (l ++ m))) := by
  have b1 := alloc_below0 w (.cells #[.slice p l.length c] 27)
  have b2 := alloc_below0 (w.alloc (.cells #[.slice p l.length c] 27)) (.cells #[.slice q m.length d] 27)
  have b3 := alloc_below0 ((w.alloc (.cells #[.slice p l.length c] 27)).alloc (.cells #[.slice q m.length d] 27)) (.cells #[.slice none 0 0] 27)
  have b4 := alloc_below0 (((w.alloc (.cells #[.slice p l.length c] 27)).alloc (.cells #[.slice q m.length d] 27)).alloc (.cells #[.slice none 0 0] 27)) (.cells #[.slice p l.length c] 27)
  have n1 := World.alloc_heap_new w (.cells #[.slice p l.length c] 27)
  have n2 := World.alloc_heap_new (w.alloc (.cells #[.slice p l.length c] 27)) (.cells #[.slice q m.length d] 27)
  have n3 := World.alloc_heap_new ((w.alloc (.cells #[.slice p l.length c] 27)).alloc (.cells #[.slice q m.length d] 27)) (.cells #[.slice none 0 0] 27)
  have n4 := World.alloc_heap_new (((w.alloc (.cells #[.slice p l.length c] 27)).alloc (.cells #[.slice q m.length d] 27)).alloc (.cells #[.slice none 0 0] 27)) (.cells #[.slice p l.length c] 27)
  have N2 := (b4.block _ (Nat.lt_of_lt_of_le (Array.getElem?_eq_some_iff.1 n2).1 b3.size)).trans ((b3.block _ (Array.getElem?_eq_some_iff.1 n2).1).trans n2)
  have N3 := (b4.block _ (Array.getElem?_eq_some_iff.1 n3).1).trans n3
  have HO4 := hid (owns60_below (owns60_below (owns60_below (owns60_below hO b1) b2) b3) b4)
  have HQ4 := hid (owns60_below (owns60_below (owns60_below (owns60_below hQ b1) b2) b3) b4)
  have HB4 := hid (((b1.trans (b2.mono b1.size)).trans (b3.mono (Nat.le_trans b1.size b2.size))).trans (b4.mono (Nat.le_trans b1.size (Nat.le_trans b2.size b3.size))))
  simp only [World.size_alloc] at N2 N3 n4
  have HN2 := hid N2; have HN3 := hid N3; have HN4 := hid n4
  have HQL := hid fun k hk => (hQ.lt k hk).2
  clear b1 b2 b3 b4 n1 n2 n3 n4 N2 N3 hO hQ
  have hls := hl.sum; have hms := hm.sum
  have hmn : m.length ≤ 1048576 := by have := len_sum m hm.pos; have := sumN_nn l hl.pos; omega
  go_enter Try.func17, Try.ntmps17
  go_wp2_with fail
  generalize ((((w.alloc (.cells #[.slice p l.length c] 27)).alloc (.cells #[.slice q m.length d] 27)).alloc (.cells #[.slice none 0 0] 27)).alloc (.cells #[.slice p l.length c] 27)) = V at HO4 HQ4 HB4 HN2 HN3 HN4 ⊢
  have hX : w.heap.size + 3 < V.heap.size := (Array.getElem?_eq_some_iff.1 HN4.out).1
  generalize hY2 : w.heap.size + 1 = Y2 at HN2 HN3 HN4 ⊢
  generalize hY3 : Y2 + 1 = Y3 at HN3 HN4 ⊢
  generalize hY4 : Y3 + 1 = Y4 at HN4 ⊢
  have HYS : Hid (w.heap.size + 1 = Y2 ∧ Y2 + 1 = Y3 ∧ Y3 + 1 = Y4) := hid ⟨hY2, hY3, hY4⟩
  clear hY2 hY3 hY4
  go_loopw [6] (fun iv wr => ∃ (i : Nat) (p' : Option Addr) (c' : Nat), iv = .int .i64 i ∧ i ≤ m.length ∧ wr.heap[Y4]? = some (.cells #[.slice p' ((m.take i).foldl addI l).length c'] 27 (0, 0)) ∧ wr.ownsRow 0 60 3 (.slice p' ((m.take i).foldl addI l).length c') ((m.take i).foldl addI l).length (itAll ((m.take i).foldl addI l)) ∧ Below Y4 V wr) (fun iv _ => m.length - (intOf iv).toNat)
  case atStart => exact ⟨0, p, c, rfl, Nat.zero_le _, HN4.out, HO4.out, Below.refl _ _⟩
  case round =>
    obtain ⟨i, p', c', rfl, hi, hbx, hrw, hbl⟩ := hrel
    have HBX := hid hbx; have HRW := hid hrw; have HBl := hid hbl
    have hYS := HYS.out
    have hY4V : Y4 < V.heap.size := by omega
    have hn2 : wr.heap[Y2]? = some (.cells #[.slice q m.length d] 27 (0, 0)) := (hbl.block Y2 (by omega)).trans HN2.out
    have y2 : wr.cell? ⟨Y2, 0, none⟩ = some (.slice q m.length d) := cell_box hn2 rfl
    have y4 : wr.cell? ⟨Y4, 0, none⟩ = some (.slice p' ((m.take i).foldl addI l).length c') := cell_box hbx rfl
    have z4 : wr.frozen? ⟨Y4, 0, none⟩ = false := by simp [World.frozen?, hbx]
    clear hbx hrw hbl hn2 hYS
    by_cases hlt : i < m.length
    · obtain ⟨fs, fp, fsum⟩ := fold_facts hl hm i
      have htk := addI_take l m i hlt
      have hQr : wr.ownsRow 0 60 3 (.slice q m.length d) m.length (itAll m) := owns60_fr (A := fun k => Y4 ≤ k) HQ4.out ⟨HBl.out.mono (Nat.zero_le _), fun k _ hA => HBl.out.block k (by omega)⟩ (fun k hk => by have := HQL.out k hk; have := HYS.out; omega)
      obtain ⟨b1, o1, hq1, e1, e2, e3⟩ := (its_of60 hQr).cells i hlt
      subst hq1
      have hy1 := sumN_le m hm.pos i hlt
      obtain ⟨y, hy⟩ : ∃ y, m[i] = y := ⟨_, rfl⟩
      rw [hy] at e1 e2 e3 htk hy1
      generalize (m.take i).foldl addI l = acc at HBX HRW y4 fs fp fsum htk
      obtain ⟨⟨yk, ym⟩, yn⟩ := y
      dsimp only at e1 e2 e3 hy1
      have hal := len_sum acc fp
      have HTK : Hid ((m.take (i + 1)).foldl addI l = (addP (yk, ym) yn acc).2) := hid htk
      have HR : Hid (∀ W, Below wr.heap.size wr W → Calls Try.prog 10 #[.agg #[.slice p' acc.length c'], .agg #[.int .i64 yk, .int .i64 ym], .int .i64 yn] W (RAddAll 0 (yk, ym) yn acc W)) := hid fun W hW => radd_any 0 p' c' acc (yk, ym) yn W (owns60_below HRW.out hW) (Nat.zero_le _) (by omega) (fun z hz => ⟨fp z hz, by
        obtain ⟨k, hk, rfl⟩ := List.getElem_of_mem hz
        have := sumN_le _ fp k hk
        omega⟩) (by omega)
      have hiz : (i : Int) < (m.length : Int) := by omega
      clear htk hy hQr hal fs fp fsum hy1 HQ4
      go_wp2_with fail
      go_region_with ((first
        | (go_at_call 10; refine Calls.mono (HR.out _ ?_) ?_; (exact (Below.refl _ wr).drew); rintro e w4 ⟨q', d', rfl, ho4, hb4⟩; have HO4' := hid ho4; have HB4' : Hid (Below wr.heap.size wr w4) := ((Below.refl _ wr).drew).trans hb4; have hY4 : w4.heap[Y4]? = some (.cells #[.slice p' acc.length c'] 27 (0, 0)) := (hb4.block Y4 (Array.getElem?_eq_some_iff.1 HBX.out).1).trans HBX.out; have HY4 := hid hY4; have y4' : w4.cell? ⟨Y4, 0, none⟩ = some (.slice p' acc.length c') := cell_box hY4 rfl; have z4' : w4.frozen? ⟨Y4, 0, none⟩ = false := (by simp [World.frozen?, hY4]); clear ho4 hb4 hY4)
        | fail))
      all_goals
        go_wp2_with fail
        go_roundw
        case rel =>
          refine ⟨i + 1, q', d', by go_num, by omega, ?_, ?_, ?_⟩
          · rw [HTK.out]; exact set1 HY4.out
          · rw [HTK.out]; exact owns60_far HO4'.out HY4.out (by decide) _
          · exact (HBl.out.trans (HB4'.out.mono (by have := HBl.out.size; omega))).setCell (p := ⟨Y4, 0, none⟩) (Nat.le_refl _) _
        case measure => simp [intOf]; omega
    · have ht : m.take i = m := List.take_of_length_le (by omega)
      rw [ht, fold_can hl] at y4 HRW
      clear z4
      have hn3 : wr.heap[Y3]? = some (.cells #[.slice none 0 0] 27 (0, 0)) := (HBl.out.block Y3 (by have := HYS.out; omega)).trans HN3.out
      have y3 : wr.cell? ⟨Y3, 0, none⟩ = some (.slice none 0 0) := cell_box hn3 rfl
      have z3 : wr.frozen? ⟨Y3, 0, none⟩ = false := by simp [World.frozen?, hn3]
      have HN3r := hid hn3
      clear hn3
      go_wp2_with fail
      refine bodyPost_ret (results_c1 rfl rfl (load_bag (set1 HN3r.out))) rfl ⟨p', c', rfl, owns60_far HRW.out HN3r.out (by decide) _, ?_⟩
      have hYS := HYS.out
      exact ((HB4.out.trans (HBl.out.mono (by omega))).setCell (p := ⟨Y3, 0, none⟩) (show w.heap.size ≤ Y3 by omega) _)
end Go.Proofs.Ytlbmamkkbpjafaa
