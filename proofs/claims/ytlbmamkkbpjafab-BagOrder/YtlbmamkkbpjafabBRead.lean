/- What read and Within answer. -/
import Derived.Test.YtlbmamkkbpjafabBOf
namespace Go.Proofs.Ytlbmamkkbpjafab
open Go.RowKit Go.Deep

/-- How many things there may be. -/
structure Bg (l : List It) : Prop where
  srt : Srt l
  pos : ∀ y ∈ l, 1 ≤ y.2
  sum : sumN l ≤ 2097152
theorem Bg.len {l : List It} (h : Bg l) : l.length ≤ 2097152 := by
  have := len_sum l h.pos
  have := h.sum
  omega
theorem clone_any2 (p : Option Addr) (c : Nat) (l : List It) (base : Nat) (w : World) (hO : w.ownsRow base 32 3 (.slice p l.length c) l.length (itAll l)) (hn : l.length ≤ 1048576) :
    Calls Try.prog 17 #[.slice p l.length c] w fun e w' => ∃ p' c', e = .returned (.slice p' l.length c') ∧ w'.ownsRow w.heap.size 32 3 (.slice p' l.length c') l.length (itAll l) ∧ Below w.heap.size w w' := by
  refine Calls.mono (clone_any p c l base w hO hn) ?_
  rintro e w' ⟨v', rfl, h1, h2⟩
  obtain ⟨p', c', rfl⟩ := owns65_form h1
  exact ⟨p', c', rfl, h1, h2⟩
/-- A row of items in new memory. -/
def NewRow (w : World) (l : List It) (e : Ending) (w' : World) : Prop := ∃ p c, e = .returned (.slice p l.length c) ∧ w'.ownsRow w.heap.size 32 3 (.slice p l.length c) l.length (itAll l) ∧ Below w.heap.size w w'
set_option maxRecDepth 100000 in
theorem read_nil (B : Nat) (w : World) : Calls Try.prog 23 #[.pointer (some ⟨B, 0, none⟩), .pointer none] w (NewRow w []) := by
  go_enter Try.func23, Try.ntmps23
  go_wp2
  go_ret
  exact ⟨none, 0, rfl, World.ownsRow_nil _ _ _ _, Below.refl _ _⟩
set_option maxRecDepth 100000 in
set_option maxHeartbeats 4000000 in
theorem read_any (B C base : Nat) (v : Value) (p : Option Addr) (c : Nat) (m : List It) (w : World) (hB : BagBox w B v) (hA : BagAt base C w m p c) (hm : Bg m) (hn : m.length ≤ 1048576) :
    Calls Try.prog 23 #[.pointer (some ⟨B, 0, none⟩), .pointer (some ⟨C, 0, none⟩)] w (NewRow w m) := by
  have k0 := hB.c0; have k1 := hA.1.c1
  have Q0 := hid k0; have Q1 := hid k1
  have HCL : Hid (∀ W, Below w.heap.size w W → Calls Try.prog 17 #[.slice p m.length c] W fun e w' => ∃ p' c', e = .returned (.slice p' m.length c') ∧ w'.ownsRow W.heap.size 32 3 (.slice p' m.length c') m.length (itAll m) ∧ Below W.heap.size W w') := hid fun W hW => clone_any2 p c m base W (owns65_below hA.2.1 hW) hn
  have HGA : Hid (∀ W p' c', W.ownsRow w.heap.size 32 3 (.slice p' m.length c') m.length (itAll m) → w.heap.size ≤ W.heap.size → Calls Try.prog 24 #[ordV, .slice p' m.length c'] W fun e w' => ∃ q d, e = .returned (.slice q m.length d) ∧ w'.ownsRow w.heap.size 32 3 (.slice q m.length d) m.length (itAll m) ∧ Below w.heap.size W w') := hid fun W p' c' hO hW => by
    refine Calls.mono (gather_any w.heap.size p' c' m W hO hm.len hm.pos (by have := hm.sum; omega)) ?_
    rintro e w' ⟨v', rfl, h1, h2⟩
    rw [canB_srt hm.srt hm.pos] at h1
    obtain ⟨q, d, rfl⟩ := owns65_form h1
    exact ⟨q, d, rfl, owns65_mono h1 hW, h2.below (fun k hk => (hO.lt k (by rw [own_eq]; exact hk)).1) hW⟩
  clear hB hA
  go_enter Try.func23, Try.ntmps23
  go_wp2_with fail
  go_region_held3 (fun w' => w'.cell? ⟨B, 0, none⟩ = some ordV ∧ w'.cell? ⟨C, 1, none⟩ = some (.slice p m.length c)) ((first
    | exact ⟨Q0.out, Q1.out⟩
    | (refine ⟨?_, ?_⟩ <;> (first | exact below_cell HB2.out _ _ Q0.out | exact below_cell HB2.out _ _ Q1.out | exact below_cell HB1.out _ _ Q0.out | exact below_cell HB1.out _ _ Q1.out))
    | fail)) ((first
    | (go_at_call 17; refine Calls.mono (HCL.out _ ?_) ?_; (exact (Below.refl _ w).drew); rintro e w1 ⟨p1, c1, rfl, ho1, hb1⟩; have HB1 : Hid (Below w.heap.size w w1) := ((Below.refl _ w).drew).trans hb1; have HO1 : Hid (w1.ownsRow w.heap.size 32 3 (.slice p1 m.length c1) m.length (itAll m)) := ho1; clear hb1 ho1)
    | (go_at_call 24; refine Calls.mono (HGA.out _ _ _ HO1.out HB1.out.size) ?_; rintro e w2 ⟨q2, d2, rfl, ho2, hb2⟩; have HB2 : Hid (Below w.heap.size w w2) := HB1.out.trans hb2; have HO2 := hid ho2; clear hb2 ho2)
    | fail))
  all_goals
    go_wp2_with fail
    go_ret
    exact ⟨q2, d2, rfl, HO2.out, HB2.out⟩
/-- Within, of rows. -/
def withinP (l m : List It) : Bool := l.all fun y => decide (y.2 ≤ cntK y.1.1 m)
theorem within_all {l m : List It} : withinP l m = true ↔ ∀ y ∈ l, y.2 ≤ cntK y.1.1 m := by
  unfold withinP
  rw [List.all_eq_true]
  exact ⟨fun h y hy => by simpa using h y hy, fun h y hy => by simpa using h y hy⟩
set_option maxRecDepth 100000 in
set_option maxHeartbeats 4000000 in
theorem within_gen (B base : Nat) (cv : Value) (p : Option Addr) (c : Nat) (l m : List It) (w : World) (hA : BagAt base B w l p c) (hln : l.length ≤ 1048576) (hm : Bg m) (hmn : m.length ≤ 1048576) (hR : Calls Try.prog 23 #[.pointer (some ⟨B, 0, none⟩), cv] w (NewRow w m)) :
    Calls Try.prog 10 #[.pointer (some ⟨B, 0, none⟩), cv] w fun e w' => e = .returned (.bool (withinP l m)) ∧ Below w.heap.size w w' := by
  have HR := hid hR; have HA := hid hA
  clear hR hA
  go_enter Try.func10, Try.ntmps10
  go_wp2_with fail
  refine HR.out.mono ?_
  rintro e w1 ⟨q, d, rfl, ho1, hb1⟩
  have HO1 := hid ho1; have HB1 := hid hb1; have HA1 := hid (HA.out.below hb1)
  have k1 := HA1.out.1.c1
  clear ho1 hb1
  go_wp2_with fail
  clear k1
  go_loopw [7, 16] (fun _ iv wr => ∃ i : Nat, iv = .int .i64 i ∧ i ≤ l.length ∧ (∀ y ∈ l.take i, y.2 ≤ cntK y.1.1 m) ∧ Below w1.heap.size w1 wr) (fun _ iv _ => l.length - (intOf iv).toNat)
  case atStart => exact ⟨0, rfl, Nat.zero_le _, fun y hy => absurd hy (by simp), Below.refl _ _⟩
  case round =>
    obtain ⟨i, rfl, hi, hal, hbl⟩ := hrel
    have HAL := hid hal; have HBl := hid hbl
    clear hal hbl
    by_cases hlt : i < l.length
    · obtain ⟨b1, o1, hp1, e1, e2, e3⟩ := (owns_its (HA1.out.below HBl.out).2.1).cells i hlt
      subst hp1
      have htk := List.take_succ_eq_append_getElem hlt
      have hmem := List.getElem_mem hlt
      obtain ⟨y, hy⟩ : ∃ y, l[i] = y := ⟨_, rfl⟩
      rw [hy] at e1 e2 e3 htk hmem
      obtain ⟨⟨yk, ym⟩, yn⟩ := y
      dsimp only at e1 e2 e3
      have b4 := alloc_below0 wr (.cells #[.int .i64 yk, .int .i64 ym, .int .i64 yn] 32)
      have N4 := World.alloc_heap_new wr (.cells #[.int .i64 yk, .int .i64 ym, .int .i64 yn] 32)
      have hB4 := HBl.out.trans (b4.mono HBl.out.size)
      have k0 := ((HA1.out.below hB4).1).c0
      have j0 : (wr.alloc (.cells #[.int .i64 yk, .int .i64 ym, .int .i64 yn] 32)).cell? ⟨wr.heap.size, 0, none⟩ = some (.int .i64 yk) := cell_box N4 rfl
      have j1 : (wr.alloc (.cells #[.int .i64 yk, .int .i64 ym, .int .i64 yn] 32)).cell? ⟨wr.heap.size, 1, none⟩ = some (.int .i64 ym) := cell_box N4 rfl
      have j2 : (wr.alloc (.cells #[.int .i64 yk, .int .i64 ym, .int .i64 yn] 32)).cell? ⟨wr.heap.size, 2, none⟩ = some (.int .i64 yn) := cell_box N4 rfl
      have HB4 := hid hB4; have HTK := hid htk; have HMEM := hid hmem
      clear b4 N4 hB4 htk hy hmem
      go_wp2_with fail
      clear e1 e2 e3
      generalize wr.alloc (.cells #[.int .i64 yk, .int .i64 ym, .int .i64 yn] 32) = V4 at HB4 k0 j0 j1 j2 ⊢
      generalize wr.heap.size = X at j0 j1 j2 ⊢
      have HC : Hid (∀ W, Below V4.heap.size V4 W → Calls Try.prog 18 #[ordV, .slice q m.length d, .agg #[.int .i64 yk, .int .i64 ym]] W fun e w' => e = .returned (.int .i64 (cntK yk m)) ∧ Below W.heap.size W w') := hid fun W hW => count_any q d m (yk, ym) W (owns_its (owns65_below (owns65_below HO1.out HB4.out) hW)) hm.srt hmn
      have hne := later_some V4
      have d0 := later_cell k0; have d1 := later_cell j0; have d2 := later_cell j1; have d3 := later_cell j2
      clear k0 j0 j1 j2
      refine wp_region_later (by kernel_rfl) (by kernel_rfl) ?_
      repeat (go_big_quiet_step (first | (go_at_call 18; with_reducible refine calls_later (HC.out _ ?_); exact Later.below _) | fail))
      refine wpQuiet_nil ?_
      intro _ hw'
      obtain ⟨b5, hw''⟩ := hw'
      subst hw''
      have HB5 := hid (HB4.out.trans (b5.below.mono HB4.out.size))
      clear d0 d1 d2 d3 hne HC
      by_cases hc : cntK yk m < yn
      · have hf : withinP l m = false := by
          cases hw : withinP l m with
          | false => rfl
          | true =>
            have h6 : yn ≤ cntK yk m := within_all.1 hw _ HMEM.out
            omega
        have HF := hid hf
        clear hf
        go_wp2_with fail
        go_ret
        exact ⟨by rw [HF.out]; rfl, HB1.out.trans (HB5.out.mono HB1.out.size)⟩
      · go_wp2_with fail
        go_roundw
        case rel =>
          refine ⟨i + 1, by go_num, by omega, fun y hy => ?_, HB5.out⟩
          rw [HTK.out] at hy
          rcases List.mem_append.1 hy with hy | hy
          · exact HAL.out y hy
          · rw [List.mem_singleton.1 hy]
            show yn ≤ cntK yk m
            omega
        case measure => simp [intOf]; omega
    · have ht : l.take i = l := List.take_of_length_le (by omega)
      have hw : withinP l m = true := within_all.2 (by have h := HAL.out; rw [ht] at h; exact h)
      have HF := hid hw
      clear hw
      go_wp2_with fail
      go_ret
      exact ⟨by rw [HF.out]; rfl, HB1.out.trans (HBl.out.mono HB1.out.size)⟩
theorem within_any (B C base base2 : Nat) (p : Option Addr) (c : Nat) (q : Option Addr) (d : Nat) (l m : List It) (w : World) (hA : BagAt base B w l p c) (hC : BagAt base2 C w m q d) (hln : l.length ≤ 1048576) (hm : Bg m) (hmn : m.length ≤ 1048576) :
    Calls Try.prog 10 #[.pointer (some ⟨B, 0, none⟩), .pointer (some ⟨C, 0, none⟩)] w fun e w' => e = .returned (.bool (withinP l m)) ∧ Below w.heap.size w w' :=
  within_gen B base _ p c l m w hA hln hm hmn (read_any B C base2 _ q d m w hA.1 hC hm hmn)
end Go.Proofs.Ytlbmamkkbpjafab
