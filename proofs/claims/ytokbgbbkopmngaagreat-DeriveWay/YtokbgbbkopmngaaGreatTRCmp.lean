/- What the document's Compare answers of any two terms; Same. -/
import Derived.Test.YtokbgbbkopmngaaGreatTKept
import Derived.WalkSpells
import Derived.WalkLawsBesides
import Derived.Shelf.Small.Strs
import Derived.Sort.Walk0
namespace Go.Proofs.YtokbgbbkopmngaaGreat
open Go.RowKit Go.Deep

theorem lt_bytes : ∀ a b : List UInt8, a < b ↔ Lib.compareBytes a b = -1
  | [], [] => by simp [Lib.compareBytes]
  | [], _ :: _ => by simp [Lib.compareBytes]
  | _ :: _, [] => by simp [Lib.compareBytes]
  | a :: u, b :: v => by
    have ih := lt_bytes u v
    rw [List.cons_lt_cons_iff, Lib.compareBytes, ih]
    by_cases h1 : a < b
    · simp [h1]
    · by_cases h2 : b < a
      · have : a ≠ b := fun e => by subst e; exact absurd h2 h1
        simp [h1, h2, this]
      · have h1' : ¬ a.toNat < b.toNat := fun h => h1 (UInt8.lt_iff_toNat_lt.2 h)
        have h2' : ¬ b.toNat < a.toNat := fun h => h2 (UInt8.lt_iff_toNat_lt.2 h)
        have : a = b := UInt8.toNat_inj.1 (by omega)
        simp [this]
theorem bytes_less (x y : ByteArray) : Op.bytesLess x.toList y.toList = decide (cmpS x y = -1) := by
  rw [bytesLess_eq, ByteArray.toList_eq, ByteArray.toList_eq]
  exact decide_eq_decide.2 (lt_bytes _ _)
theorem cmpS_three (x y : ByteArray) : cmpS x y = if Op.bytesLess x.toList y.toList = true then -1 else if (x.toList == y.toList) = true then 0 else 1 := by
  rw [bytes_less, ByteArray.toList_eq, ByteArray.toList_eq]
  unfold cmpS
  have hr : Lib.compareBytes x.data.toList y.data.toList = -1 ∨ Lib.compareBytes x.data.toList y.data.toList = 0 ∨ Lib.compareBytes x.data.toList y.data.toList = 1 := by
    have : ∀ a b : List UInt8, -1 ≤ Lib.compareBytes a b ∧ Lib.compareBytes a b ≤ 1 := by
      intro a
      induction a with
      | nil => intro b; cases b <;> simp [Lib.compareBytes]
      | cons p u ih =>
        intro b
        cases b with
        | nil => simp [Lib.compareBytes]
        | cons q v =>
          have := ih v
          rw [Lib.compareBytes]
          split
          · omega
          · split <;> omega
    have := this x.data.toList y.data.toList
    omega
  by_cases e : x.data.toList = y.data.toList
  · rw [e, bytes_refl]; simp
  · have h0 : Lib.compareBytes x.data.toList y.data.toList ≠ 0 := fun h => e (bytes_zero h)
    rcases hr with h | h | h
    · simp [h]
    · exact absurd h h0
    · simp only [h]
      have : (x.data.toList == y.data.toList) = false := by simpa using e
      rw [this]; rfl
def RCmpOk (k : Nat) : Prop := ∀ (x y : ByteArray × Int) (a a' : Option Addr) (c c' : Nat) (l m : Fo) (w : World), nodesF l ≤ k → TmAt w x a c l → TmAt w y a' c' m →
  Calls Tryz.prog 32 #[.agg #[.string x.1, .int .i64 x.2, .slice a (lenF l) c], .agg #[.string y.1, .int .i64 y.2, .slice a' (lenF m) c']] w
    fun e w' => e = .returned (.int .i64 (cmp1 x y (lenF l) (lenF m) (cmpF l m))) ∧ Below w.heap.size w w'

set_option maxRecDepth 100000 in
set_option maxHeartbeats 2000000 in
theorem rcompare_all : ∀ k, RCmpOk k := by
  intro k
  induction k using Nat.strongRecOn with
  | _ k ih =>
    intro x y a a' c c' l m w hk hA hB
    have HA : Hid (TmAt w x a c l) := hA
    have HB : Hid (TmAt w y a' c' m) := hB
    have IH : Hid (∀ j, j < k → RCmpOk j) := ih
    have hmax : maxLen = 9223372036854775807 := rfl
    have hs1 := hA.sizes.len
    have hs2 := hA.sizes.cap
    have PA : Hid (Pair w x a (lenF l) c y a' (lenF m) c' ((w.alloc (.cells #[.string x.1, .int .i64 x.2, .slice a (lenF l) c] 26)).alloc (.cells #[.string y.1, .int .i64 y.2, .slice a' (lenF m) c'] 26))) := Pair.new _ _ _ _ _ _ _ _ _
    clear hA hB ih
    cases hx : x.1.toList.isEmpty <;> cases hy : y.1.toList.isEmpty
    · have hr : Hid (cmp1 x y (lenF l) (lenF m) (cmpF l m) = cmpS x.1 y.1) := by show _ = _; unfold cmp1 noName; rw [hx, hy]; rfl
      have hS := cmpS_three x.1 y.1
      cases h1 : Op.bytesLess x.1.toList y.1.toList
      · cases h2 : (x.1.toList == y.1.toList)
        · rw [h1, h2] at hS
          go_enter Tryz.func32, Tryz.ntmps32
          go_wp2
          go_ret
          exact ⟨by rw [hr.out, hS]; rfl, PA.out.low⟩
        · rw [h1, h2] at hS
          go_enter Tryz.func32, Tryz.ntmps32
          go_wp2
          go_ret
          exact ⟨by rw [hr.out, hS]; rfl, PA.out.low⟩
      · rw [h1] at hS
        go_enter Tryz.func32, Tryz.ntmps32
        go_wp2
        go_ret
        exact ⟨by rw [hr.out, hS]; rfl, PA.out.low⟩
    · have hr : Hid (cmp1 x y (lenF l) (lenF m) (cmpF l m) = -1) := by show _ = _; unfold cmp1 noName cmpS; rw [hx, hy]; rfl
      go_enter Tryz.func32, Tryz.ntmps32
      go_wp2
      go_ret
      exact ⟨by rw [hr.out]; rfl, PA.out.low⟩
    · have hr : Hid (cmp1 x y (lenF l) (lenF m) (cmpF l m) = 1) := by show _ = _; unfold cmp1 noName cmpS; rw [hx, hy]; rfl
      go_enter Tryz.func32, Tryz.ntmps32
      go_wp2
      go_ret
      exact ⟨by rw [hr.out]; rfl, PA.out.low⟩
    · cases hs : (x.2 != y.2)
      · cases hn : ((lenF l : Int) != (lenF m : Int))
        · have hr : Hid (cmp1 x y (lenF l) (lenF m) (cmpF l m) = cmpF l m) := by
            show _ = _; unfold cmp1 noName cmpS; rw [hx, hy]; simp at hs hn; simp [hs]; omega
          have hlm : Hid (lenF m = lenF l) := by show _ = _; simp at hn; omega
          go_enter Tryz.func32, Tryz.ntmps32
          go_wp2
          go_loopw [5, 6] (fun i _ wr => ∃ j : Nat, j ≤ lenF l ∧ i = .int .i64 j ∧ Pair w x a (lenF l) c y a' (lenF m) c' wr ∧ cmpF l m = cmpF (dropF j l) (dropF j m)) (fun i _ _ => lenF l - (intOf i).toNat)
          case atStart => exact ⟨0, Nat.zero_le _, rfl, PA.out, by rw [drop_zero, drop_zero]⟩
          case round =>
            obtain ⟨j, hj, rfl, hP, hcmp⟩ := hrel
            have t2 := hP.l.c2
            by_cases hlt : j < lenF l
            · obtain ⟨b1, o1, rfl, hk1⟩ := HA.out.args.get (by omega)
              obtain ⟨b2, o2, rfl, hk2⟩ := HB.out.args.get (by have := hlm.out; omega)
              obtain ⟨z, a1, c1, l1, kd⟩ := hk1.kid (k := j) hlt
              obtain ⟨z', a2, c2, l2, kd2⟩ := hk2.kid (k := j) (by have := hlm.out; omega)
              have kd' := kd.below hP.low
              have kd2' := kd2.below hP.low
              have HP : Hid (Pair w x (some ⟨b1, o1, none⟩) (lenF l) c y (some ⟨b2, o2, none⟩) (lenF m) c' wr) := hP
              have hC : Hid (∀ w', Below wr.heap.size wr w' → Calls Tryz.prog 32 #[.agg #[.string z.1, .int .i64 z.2, .slice a1 (lenF l1) c1], .agg #[.string z'.1, .int .i64 z'.2, .slice a2 (lenF l2) c2]] w' fun e w'' => e = .returned (.int .i64 (cmp1 z z' (lenF l1) (lenF l2) (cmpF l1 l2))) ∧ Below w'.heap.size w' w'') := fun w' hb =>
                IH.out (nodesF l1) (by have := kd.less; omega) z z' a1 a2 c1 c2 l1 l2 w' (Nat.le_refl _) (kd'.at_.below hb) (kd2'.at_.below hb)
              obtain ⟨B1, O1, s1⟩ := kd.split
              obtain ⟨B2, O2, s2⟩ := kd2.split
              rw [s1, s2, cmpF] at hcmp
              have HC : Hid (cmpF l m = thenC (cmp1 z z' (lenF l1) (lenF l2) (cmpF l1 l2)) (cmpF (dropF (j + 1) l) (dropF (j + 1) m))) := hcmp
              have hne := later_some wr
              have d0 := later_cell hP.l.c2
              have d1 := later_cell hP.r.c2
              have p0 := later_cell kd'.name; have p1 := later_cell kd'.sym; have p2 := later_cell kd'.list
              have q0 := later_cell kd2'.name; have q1 := later_cell kd2'.sym; have q2 := later_cell kd2'.list
              have hk0 : (0 : Int) ≤ (j : Int) := by omega
              have hkn : (j : Int) < (lenF l : Int) := by omega
              have hkm : (j : Int) < (lenF m : Int) := by have := hlm.out; omega
              clear kd kd2 kd' kd2' hk1 hk2 hP hcmp s1 s2
              go_wp2_with fail
              refine wp_region_later (by kernel_rfl) (by kernel_rfl) ?_
              repeat (go_big_quiet_step ((refine calls_later (hC.out _ ?_); exact Later.below _)))
              refine wpQuiet_nil ?_
              intro _ hw'
              obtain ⟨bl, hw''⟩ := hw'
              subst hw''
              have HP2 : Hid (Pair w x (some ⟨b1, o1, none⟩) (lenF l) c y (some ⟨b2, o2, none⟩) (lenF m) c' bl.now) := HP.out.below bl.below
              clear d0 d1 p0 p1 p2 q0 q1 q2 t2
              cases hz : (cmp1 z z' (lenF l1) (lenF l2) (cmpF l1 l2) != 0)
              · go_wp2
                go_roundw
                case rel => exact ⟨j + 1, by omega, by go_num, HP2.out, by rw [HC.out]; unfold thenC; rw [if_pos (by simpa using hz)]⟩
                case measure => simp [intOf]; omega
              · go_wp2
                go_ret
                refine ⟨?_, HP2.out.low⟩
                rw [hr.out, HC.out]; unfold thenC; rw [if_neg (by simpa using hz)]; rfl
            · have hz : cmpF l m = 0 := by
                rw [hcmp, show j = lenF l by omega, drop_end]; rfl
              go_wp2
              go_ret
              exact ⟨by rw [hr.out, hz]; rfl, hP.low⟩
        · have hr : Hid (cmp1 x y (lenF l) (lenF m) (cmpF l m) = Lib.compareInt (lenF l) (lenF m)) := by
            show _ = _; unfold cmp1 noName cmpS; rw [hx, hy]; simp at hs hn; simp [hs]; omega
          have hne : lenF l ≠ lenF m := by simp at hn; omega
          by_cases h1 : lenF l < lenF m
          · go_enter Tryz.func32, Tryz.ntmps32
            go_wp2
            go_ret
            refine ⟨?_, PA.out.low⟩
            rw [hr.out]; unfold Lib.compareInt; rw [if_pos (by omega)]; rfl
          · go_enter Tryz.func32, Tryz.ntmps32
            go_wp2
            go_ret
            refine ⟨?_, PA.out.low⟩
            rw [hr.out]; unfold Lib.compareInt; rw [if_neg (by omega), if_pos (by omega)]; rfl
      · have hr : Hid (cmp1 x y (lenF l) (lenF m) (cmpF l m) = Lib.compareInt x.2 y.2) := by
          show _ = _; unfold cmp1 noName cmpS; rw [hx, hy]; simp at hs; simp [hs]
        have hne : x.2 ≠ y.2 := by simpa using hs
        by_cases h1 : x.2 < y.2
        · go_enter Tryz.func32, Tryz.ntmps32
          go_wp2
          go_ret
          refine ⟨?_, PA.out.low⟩
          rw [hr.out]; unfold Lib.compareInt; rw [if_pos h1]; rfl
        · go_enter Tryz.func32, Tryz.ntmps32
          go_wp2
          go_ret
          refine ⟨?_, PA.out.low⟩
          rw [hr.out]; unfold Lib.compareInt; rw [if_neg (by omega), if_pos (by omega)]; rfl

end Go.Proofs.YtokbgbbkopmngaaGreat
