/- What the document's Within answers. -/
import Derived.Test.YtlbmamkkbpjafaaDDoc
namespace Go.Proofs.Ytlbmamkkbpjafaa
open Go.RowKit Go.Deep

set_option maxRecDepth 100000 in
set_option maxHeartbeats 8000000 in
theorem rwithin_any (p : Option Addr) (c : Nat) (l : List It) (q : Option Addr) (d : Nat) (m : List It) (w : World) (hO : w.ownsRow 0 60 3 (.slice p l.length c) l.length (itAll l)) (hQ : w.ownsRow 0 60 3 (.slice q m.length d) m.length (itAll m)) (hln : l.length ≤ 1048576) (hmn : m.length ≤ 1048576) :
    Calls Try.prog 23 #[.agg #[.slice p l.length c], .agg #[.slice q m.length d]] w fun e w' => e = .returned (.bool (withinP l m)) ∧ Below w.heap.size w w' := by
  have b1 := alloc_below0 w (.cells #[.slice p l.length c] 27)
  have b2 := alloc_below0 (w.alloc (.cells #[.slice p l.length c] 27)) (.cells #[.slice q m.length d] 27)
  have n1 := World.alloc_heap_new w (.cells #[.slice p l.length c] 27)
  have n2 := World.alloc_heap_new (w.alloc (.cells #[.slice p l.length c] 27)) (.cells #[.slice q m.length d] 27)
  have N1 := (b2.block _ (Array.getElem?_eq_some_iff.1 n1).1).trans n1
  have HO := hid (owns60_below (owns60_below hO b1) b2); have HQ := hid (owns60_below (owns60_below hQ b1) b2); have HB := hid (b1.trans (b2.mono b1.size))
  rw [World.size_alloc] at n2
  have HN1 := hid N1; have HN2 := hid n2
  clear b1 b2 n1 n2 N1 hO hQ
  go_enter Try.func23, Try.ntmps23
  go_wp2_with fail
  generalize (w.alloc (.cells #[.slice p l.length c] 27)).alloc (.cells #[.slice q m.length d] 27) = V at HO HQ HB HN1 HN2 ⊢
  generalize w.heap.size + 1 = Y2 at HN2 ⊢
  generalize hY1 : w.heap.size = Y1 at HN1 ⊢
  go_loopw [5] (fun iv wr => ∃ i : Nat, iv = .int .i64 i ∧ i ≤ l.length ∧ (∀ y ∈ l.take i, y.2 ≤ cntK y.1.1 m) ∧ Below V.heap.size V wr) (fun iv _ => l.length - (intOf iv).toNat)
  case atStart => exact ⟨0, rfl, Nat.zero_le _, fun y hy => absurd hy (by simp), Below.refl _ _⟩
  case round =>
    obtain ⟨i, rfl, hi, hal, hbl⟩ := hrel
    have HAL := hid hal; have HBl := hid hbl
    have y1 : wr.cell? ⟨Y1, 0, none⟩ = some (.slice p l.length c) := below_cell hbl _ _ (cell_box HN1.out rfl)
    have y2 : wr.cell? ⟨Y2, 0, none⟩ = some (.slice q m.length d) := below_cell hbl _ _ (cell_box HN2.out rfl)
    clear hal hbl
    by_cases hlt : i < l.length
    · obtain ⟨b1, o1, hq1, e1, e2, e3⟩ := (its_of60 (owns60_below HO.out HBl.out)).cells i hlt
      subst hq1
      have htk := List.take_succ_eq_append_getElem hlt
      have hmem := List.getElem_mem hlt
      obtain ⟨y, hy⟩ : ∃ y, l[i] = y := ⟨_, rfl⟩
      rw [hy] at e1 e2 e3 htk hmem
      obtain ⟨⟨yk, ym⟩, yn⟩ := y
      dsimp only at e1 e2 e3
      have HTK := hid htk; have HMEM := hid hmem
      have HC : Hid (∀ W, Below wr.heap.size wr W → Calls Try.prog 15 #[.agg #[.slice q m.length d], .agg #[.int .i64 yk, .int .i64 ym]] W fun e w' => e = .returned (.int .i64 (cntK yk m)) ∧ Below W.heap.size W w') := hid fun W hW => rcount_any q d m (yk, ym) W (its_of60 (owns60_below (owns60_below HQ.out HBl.out) hW)) hmn
      have hiz : (i : Int) < (l.length : Int) := by omega
      clear htk hy hmem
      go_wp2_with fail
      have hne := later_some wr
      have d0 := later_cell y1; have d1 := later_cell y2; have d2 := later_cell e1; have d3 := later_cell e2; have d4 := later_cell e3
      clear y1 y2 e1 e2 e3
      refine wp_region_later (by kernel_rfl) (by kernel_rfl) ?_
      repeat (go_big_quiet_step (first | (go_at_call 15; with_reducible refine calls_later (HC.out _ ?_); exact Later.below _) | fail))
      refine wpQuiet_nil ?_
      intro _ hw'
      obtain ⟨b5, hw''⟩ := hw'
      subst hw''
      have HB5 := hid (HBl.out.trans (b5.below.mono HBl.out.size))
      clear d0 d1 d2 d3 d4 hne HC
      by_cases hc : cntK yk m < yn
      · have hf : withinP l m = false := by
          cases hw : withinP l m with
          | false => rfl
          | true =>
            have h6 : yn ≤ cntK yk m := within_all.1 hw _ HMEM.out
            omega
        have HF := hid hf
        clear hf
        go_wp2_with fail
        go_ret
        exact ⟨by rw [HF.out]; rfl, HB.out.trans (HB5.out.mono HB.out.size)⟩
      · go_wp2_with fail
        go_roundw
        case rel =>
          refine ⟨i + 1, by go_num, by omega, fun y hy => ?_, HB5.out⟩
          rw [HTK.out] at hy
          rcases List.mem_append.1 hy with hy | hy
          · exact HAL.out y hy
          · rw [List.mem_singleton.1 hy]
            show yn ≤ cntK yk m
            omega
        case measure => simp [intOf]; omega
    · have ht : l.take i = l := List.take_of_length_le (by omega)
      have hw : withinP l m = true := within_all.2 (by have h := HAL.out; rw [ht] at h; exact h)
      have HF := hid hw
      clear hw
      go_wp2_with fail
      go_ret
      exact ⟨by rw [HF.out]; rfl, HB.out.trans (HBl.out.mono HB.out.size)⟩
end Go.Proofs.Ytlbmamkkbpjafaa
