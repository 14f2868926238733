/- What Compare of package terms answers of any two terms. -/
import Derived.Test.YtppgmepmegelbaaGreatDoorRows
import Derived.Test.YtppgmepmegelbaaGreatDoorShelfC
import Derived.Test.YtppgmepmegelbaaGreatDoorTMem
import Derived.WalkKit
import Derived.Sort.Grow
import Derived.WalkSpells
import Derived.WalkLawsBesides
namespace Go.Proofs.YtppgmepmegelbaaGreatDoor
open Go.RowKit Go.Deep

/-- Nothing but new blocks. -/
def Grew (w w' : World) : Prop := ∃ os : Array Obj, w' = Sort.grow w os
set_option maxRecDepth 100000 in
theorem Grew.refl (w : World) : Grew w w := ⟨#[], by simp⟩
set_option maxRecDepth 100000 in
theorem Grew.size {w w' : World} (h : Grew w w') : w.heap.size ≤ w'.heap.size := by obtain ⟨os, rfl⟩ := h; simp
set_option maxRecDepth 100000 in
theorem Grew.trans {a b c : World} (h : Grew a b) (k : Grew b c) : Grew a c := by
  obtain ⟨os, rfl⟩ := h; obtain ⟨os', rfl⟩ := k
  exact ⟨os ++ os', by rw [Sort.grow_grow]⟩
set_option maxRecDepth 100000 in
theorem Grew.alloc {w w' : World} (h : Grew w w') (o : Obj) : Grew w (w'.alloc o) := h.trans ⟨#[o], Sort.alloc_eq_grow _ _⟩
set_option maxRecDepth 100000 in
theorem Grew.below {w w' : World} (h : Grew w w') : Below w.heap.size w w' := by
  have hs := h.size
  obtain ⟨os, rfl⟩ := h
  exact ⟨rfl, rfl, rfl, hs, fun k hk => Sort.heap_grow_old w os hk⟩

def CmpOk (k : Nat) : Prop := ∀ (x y : ByteArray × Int) (a a' : Option Addr) (c c' : Nat) (l m : Fo) (w : World), nodesF l ≤ k → TmAt w x a c l → TmAt w y a' c' m →
  Calls Tryz.prog 67 #[.agg #[.string x.1, .int .i64 x.2, .slice a (lenF l) c], .agg #[.string y.1, .int .i64 y.2, .slice a' (lenF m) c']] w
    fun e w' => e = .returned (.int .i64 (cmp1 x y (lenF l) (lenF m) (cmpF l m))) ∧ Grew w w'

set_option maxRecDepth 100000 in
set_option maxHeartbeats 1000000 in
theorem cmpfunc_any (k : Nat) (ih : ∀ j, j < k → CmpOk j) (F G : Fo) (n m c c' : Nat) (hF : nodesF F ≤ k) (hn : n = lenF F) (hm : m = lenF G) (hl : n = m) (hs : n ≤ 9223372036854775807) (a a' : Option Addr) (w : World) (hA : ArgsAt w a F) (hB : ArgsAt w a' G) :
    Calls Tryz.prog 91 #[.slice a n c, .slice a' m c', .func (.func 67) #[] #[]] w fun e w' => e = .returned (.int .i64 (cmpF F G)) ∧ Grew w w' := by
  subst hl
  have HA : Hid (ArgsAt w a F) := hA
  have HB : Hid (ArgsAt w a' G) := hB
  have HN : Hid (n = lenF F) := hn
  have HM : Hid (n = lenF G) := hm
  have IH : Hid (∀ j, j < k → CmpOk j) := ih
  clear hA hB hn hm ih
  go_enter Tryz.func91, Tryz.ntmps91
  go_wp2
  go_loopw [7, 8, 9, 10, 13] (fun _ _ _ _ i w' => ∃ k : Nat, k ≤ n ∧ i = .int .i64 k ∧ Grew w w' ∧ cmpF F G = cmpF (dropF k F) (dropF k G)) (fun _ _ _ _ i _ => n - (intOf i).toNat)
  case atStart => exact ⟨0, Nat.zero_le _, rfl, Grew.refl _, by rw [drop_zero, drop_zero]⟩
  case round =>
    obtain ⟨j, hj, rfl, hb, hcmp⟩ := hrel
    by_cases hlt : j < n
    · obtain ⟨b, o, rfl, hk1⟩ := HA.out.get (by have := HN.out; omega)
      obtain ⟨b', o', rfl, hk2⟩ := HB.out.get (by have := HM.out; omega)
      obtain ⟨x, a1, c1, l1, k1⟩ := hk1.kid (k := j) (by have := HN.out; omega)
      obtain ⟨y, a2, c2, l2, k2⟩ := hk2.kid (k := j) (by have := HM.out; omega)
      have k1' := k1.below hb.below
      have hb1 := hb.alloc (.cells #[.string x.1, .int .i64 x.2, .slice a1 (lenF l1) c1] 28)
      have k2' := k2.below hb1.below
      have p0 := k1'.name; have p1 := k1'.sym; have p2 := k1'.list
      have q0 := k2'.name; have q1 := k2'.sym; have q2 := k2'.list
      have hb2 := hb1.alloc (.cells #[.string y.1, .int .i64 y.2, .slice a2 (lenF l2) c2] 28)
      have HB2 : Hid (Grew w ((wr.alloc (.cells #[.string x.1, .int .i64 x.2, .slice a1 (lenF l1) c1] 28)).alloc (.cells #[.string y.1, .int .i64 y.2, .slice a2 (lenF l2) c2] 28))) := hb2
      have IHc := IH.out (nodesF l1) (by have := k1.less; omega) x y a1 a2 c1 c2 l1 l2 _ (Nat.le_refl _) (k1.below hb2.below).at_ (k2.below hb2.below).at_
      obtain ⟨B1, O1, s1⟩ := k1.split
      obtain ⟨B2, O2, s2⟩ := k2.split
      rw [s1, s2, cmpF] at hcmp
      have HC : Hid (cmpF F G = thenC (cmp1 x y (lenF l1) (lenF l2) (cmpF l1 l2)) (cmpF (dropF (j + 1) F) (dropF (j + 1) G))) := hcmp
      clear k1 k2 k1' k2' hk1 hk2 hcmp hb1 hb2 s1 s2
      go_wp2_with fail
      refine IHc.mono ?_
      rintro e w2 ⟨rfl, hb3⟩
      have HB3 : Hid (Grew w w2) := HB2.out.trans hb3
      clear IHc hb3
      cases hz : (cmp1 x y (lenF l1) (lenF l2) (cmpF l1 l2) != 0)
      · go_wp2
        go_roundw
        case rel => exact ⟨j + 1, by omega, by go_num, HB3.out, by rw [HC.out]; unfold thenC; rw [if_pos (by simpa using hz)]⟩
        case measure => simp [intOf]; omega
      · go_wp2
        go_ret
        refine ⟨?_, HB3.out⟩
        rw [HC.out]; unfold thenC; rw [if_neg (by simpa using hz)]; rfl
    · have hz : cmpF F G = 0 := by
        rw [hcmp, show j = n by omega]
        have e1 := drop_end F
        rw [← HN.out] at e1
        rw [e1]; rfl
      go_wp2
      go_ret
      exact ⟨by rw [hz]; rfl, hb⟩

set_option maxRecDepth 100000 in
set_option maxHeartbeats 1000000 in
theorem compare_all : ∀ k, CmpOk k := by
  intro k
  induction k using Nat.strongRecOn with
  | _ k ih =>
    intro x y a a' c c' l m w hk hA hB
    have HA : Hid (TmAt w x a c l) := hA
    have HB : Hid (TmAt w y a' c' m) := hB
    have IH : Hid (∀ j, j < k → CmpOk j) := ih
    clear hA hB ih
    have hb2 : Grew w ((w.alloc (.cells #[.string x.1, .int .i64 x.2, .slice a (lenF l) c] 28)).alloc (.cells #[.string y.1, .int .i64 y.2, .slice a' (lenF m) c'] 28)) := ((Grew.refl w).alloc _).alloc _
    have HB2 : Hid (Grew w ((w.alloc (.cells #[.string x.1, .int .i64 x.2, .slice a (lenF l) c] 28)).alloc (.cells #[.string y.1, .int .i64 y.2, .slice a' (lenF m) c'] 28))) := hb2
    clear hb2
    cases hx : x.1.toList.isEmpty <;> cases hy : y.1.toList.isEmpty
    · have hr : Hid (cmp1 x y (lenF l) (lenF m) (cmpF l m) = Lib.compareBytes x.1.data.toList y.1.data.toList) := by show _ = _; unfold cmp1 noName cmpS; rw [hx, hy]; rfl
      go_enter Tryz.func67, Tryz.ntmps67
      go_wp2_with fail
      refine (Tryz.strings_Compare _ _ _).mono ?_
      rintro e w2 ⟨rfl, rfl⟩
      go_wp2
      go_ret
      exact ⟨by rw [hr.out]; rfl, HB2.out⟩
    · have hr : Hid (cmp1 x y (lenF l) (lenF m) (cmpF l m) = -1) := by show _ = _; unfold cmp1 noName cmpS; rw [hx, hy]; rfl
      go_enter Tryz.func67, Tryz.ntmps67
      go_wp2
      go_ret
      exact ⟨by rw [hr.out]; rfl, HB2.out⟩
    · have hr : Hid (cmp1 x y (lenF l) (lenF m) (cmpF l m) = 1) := by show _ = _; unfold cmp1 noName cmpS; rw [hx, hy]; rfl
      go_enter Tryz.func67, Tryz.ntmps67
      go_wp2
      go_ret
      exact ⟨by rw [hr.out]; rfl, HB2.out⟩
    · cases hs : (x.2 != y.2)
      · cases hn : ((lenF l : Int) != (lenF m : Int))
        · have hr : Hid (cmp1 x y (lenF l) (lenF m) (cmpF l m) = cmpF l m) := by
            show _ = _; unfold cmp1 noName cmpS; rw [hx, hy]; simp at hs hn; simp [hs]; omega
          have hc := cmpfunc_any k IH.out l m (lenF l) (lenF m) c c' hk rfl rfl (by simp at hn; omega) (by have := HA.out.sizes.len; have := HA.out.sizes.cap; unfold maxLen at *; omega) a a' _ (HA.out.args.below HB2.out.below) (HB.out.args.below HB2.out.below)
          go_enter Tryz.func67, Tryz.ntmps67
          go_wp2_with fail
          refine hc.mono ?_
          rintro e w2 ⟨rfl, hb3⟩
          go_wp2
          go_ret
          exact ⟨by rw [hr.out]; rfl, HB2.out.trans hb3⟩
        · have hr : Hid (cmp1 x y (lenF l) (lenF m) (cmpF l m) = Lib.compareInt (lenF l) (lenF m)) := by
            show _ = _; unfold cmp1 noName cmpS; rw [hx, hy]; simp at hs hn; simp [hs]; omega
          go_enter Tryz.func67, Tryz.ntmps67
          go_wp2_with fail
          refine (Tryz.cmp_Compare_int _ _ _).mono ?_
          rintro e w2 ⟨rfl, rfl⟩
          go_wp2
          go_ret
          exact ⟨by rw [hr.out]; rfl, HB2.out⟩
      · have hr : Hid (cmp1 x y (lenF l) (lenF m) (cmpF l m) = Lib.compareInt x.2 y.2) := by
          show _ = _; unfold cmp1 noName cmpS; rw [hx, hy]; simp at hs; simp [hs]
        go_enter Tryz.func67, Tryz.ntmps67
        go_wp2_with fail
        refine (Tryz.cmp_Compare_int _ _ _).mono ?_
        rintro e w2 ⟨rfl, rfl⟩
        go_wp2
        go_ret
        exact ⟨by rw [hr.out]; rfl, HB2.out⟩
end Go.Proofs.YtppgmepmegelbaaGreatDoor
