/- How many nodes, and what is wrong node by node: the document's Check, whole. -/
import Derived.Test.YtkcbhbkldcebiaaTRChk
namespace Go.Proofs.Ytkcbhbkldcebiaa
open Go.RowKit Go.Deep

theorem ov_range (F : Fo) (m : Int) (h1 : -1 ≤ m) (h2 : m ≤ 40) : -1 ≤ ovF F m ∧ ovF F m ≤ 40 := by
  by_cases h : m < 0
  · rw [ov_neg F m h]; omega
  · rw [ov_is F m (by omega)]
    split <;> omega
/-- The box of a function of one term. -/
structure One (w : World) (x : ByteArray × Int) (a : Option Addr) (n c : Nat) (W : World) : Prop where
  low : Below w.heap.size w W
  t : TBox W w.heap.size x a n c
theorem One.new (w : World) (x : ByteArray × Int) (a : Option Addr) (n c : Nat) : One w x a n c (w.alloc (.cells #[.string x.1, .int .i64 x.2, .slice a n c] 28)) := ⟨(Below.refl _ w).alloc (Nat.le_refl _) _, TBox.new _ _ _ _ _⟩
theorem One.below {w : World} {x : ByteArray × Int} {a : Option Addr} {n c : Nat} {W W' : World} (h : One w x a n c W) (hb : Below W.heap.size W W') : One w x a n c W' := ⟨h.low.trans (hb.mono h.low.size), h.t.below hb⟩

def OvOk (k : Nat) : Prop := ∀ (x : ByteArray × Int) (l : Fo) (a : Option Addr) (c : Nat) (m : Int) (w : World), nodesF l ≤ k → TmAt w x a c l → 0 ≤ m → m ≤ 40 →
  Calls Try.prog 71 #[.agg #[.string x.1, .int .i64 x.2, .slice a (lenF l) c], .int .i64 m] w fun e w' => e = .returned (.int .i64 (ovF l (m - 1))) ∧ Below w.heap.size w w'

set_option maxRecDepth 100000 in
set_option maxHeartbeats 1000000 in
theorem over_all : ∀ k, OvOk k := by
  intro k
  induction k using Nat.strongRecOn with
  | _ k ih =>
    intro x l a c m w hk hT hm0 hm1
    have HT : Hid (TmAt w x a c l) := hT
    have IH : Hid (∀ j, j < k → OvOk j) := ih
    have O0 : Hid (One w x a (lenF l) c (w.alloc (.cells #[.string x.1, .int .i64 x.2, .slice a (lenF l) c] 28))) := One.new _ _ _ _ _
    have hn : lenF l ≤ 9223372036854775807 := by have := hT.sizes.len; have := hT.sizes.cap; unfold maxLen at *; omega
    clear hT ih
    go_enter Try.func71, Try.ntmps71
    go_wp2
    go_loopw [1, 5] (fun mo i wr => ∃ (j : Nat) (q : Int), j ≤ lenF l ∧ mo = .int .i64 q ∧ i = .int .i64 j ∧ -1 ≤ q ∧ q ≤ 40 ∧ One w x a (lenF l) c wr ∧ ovF l (m - 1) = ovF (dropF j l) q) (fun _ i _ => lenF l - (intOf i).toNat)
    case atStart => exact ⟨0, m - 1, Nat.zero_le _, rfl, rfl, by omega, by omega, O0.out, by rw [drop_zero]⟩
    case round =>
      obtain ⟨j, q, hj, rfl, rfl, hq0, hq1, hO, hov⟩ := hrel
      have t2 := hO.t.c2
      by_cases hlt : j < lenF l
      · by_cases hq : q < 0
        · rw [ov_neg _ _ hq] at hov
          have hov' : Hid (ovF l (m - 1) = q) := hov
          clear hov
          have hq' : decide (0 ≤ q) = false := by simp; omega
          go_wp2
          go_ret
          exact ⟨by rw [hov'.out]; rfl, hO.low⟩
        · obtain ⟨b1, o1, rfl, hk1⟩ := HT.out.args.get (by omega)
          obtain ⟨z, a1, c1, l1, kd⟩ := hk1.kid (k := j) hlt
          have kd' := kd.below hO.low
          obtain ⟨B1, O1, s1⟩ := kd.split
          rw [s1, ovF, if_neg hq] at hov
          have HOV : Hid (ovF l (m - 1) = ovF (dropF (j + 1) l) (ovF l1 (q - 1))) := hov
          have p0 := kd'.name; have p1 := kd'.sym; have p2 := kd'.list
          have hC := IH.out (nodesF l1) (by have := kd.less; omega) z l1 a1 c1 q wr (Nat.le_refl _) kd'.at_ (by omega) hq1
          have HO : Hid (One w x (some ⟨b1, o1, none⟩) (lenF l) c wr) := hO
          have hr := ov_range l1 (q - 1) (by omega) (by omega)
          clear kd kd' hk1 hov s1 hO
          have hq' : decide (0 ≤ q) = true := by simp; omega
          go_wp2_with fail
          refine hC.mono ?_
          rintro e w2 ⟨rfl, hb⟩
          have HO2 : Hid (One w x (some ⟨b1, o1, none⟩) (lenF l) c w2) := HO.out.below hb
          clear hC hb p0 p1 p2 t2
          go_wp2
          go_roundw
          case rel => exact ⟨j + 1, _, by omega, rfl, by go_num, hr.1, hr.2, HO2.out, HOV.out⟩
          case measure => simp [intOf]; omega
      · have e1 : j = lenF l := by omega
        rw [e1, drop_end, ovF] at hov
        have hov' : Hid (ovF l (m - 1) = q) := hov
        clear hov
        go_wp2
        go_ret
        exact ⟨by rw [hov'.out]; rfl, hO.low⟩

set_option maxHeartbeats 1000000 in
theorem Over_any (x : ByteArray × Int) (l : Fo) (a : Option Addr) (c : Nat) (w : World) (hT : TmAt w x a c l) :
    Calls Try.prog 50 #[.agg #[.string x.1, .int .i64 x.2, .slice a (lenF l) c], .int .i64 40] w fun e w' => e = .returned (.bool (decide (40 < nodesF l + 1))) ∧ Below w.heap.size w w' := by
  have O0 : Hid (One w x a (lenF l) c (w.alloc (.cells #[.string x.1, .int .i64 x.2, .slice a (lenF l) c] 28))) := One.new _ _ _ _ _
  have hC := over_all _ x l a c 40 _ (Nat.le_refl _) (hT.below O0.out.low) (by omega) (by omega)
  have hE : Hid (decide (ovF l (40 - 1) < 0) = decide (40 < nodesF l + 1)) := by
    show _ = _
    rw [ov_is l _ (by omega)]
    split <;> simp <;> omega
  go_enter Try.func50, Try.ntmps50
  go_wp2_with fail
  refine hC.mono ?_
  rintro e w2 ⟨rfl, hb⟩
  go_wp2
  go_ret
  exact ⟨by rw [← hE.out]; rfl, O0.out.low.trans (hb.mono O0.out.low.size)⟩

def NdOk (S : List Sym) (k : Nat) : Prop := ∀ (sa : Option Addr) (sn sc : Nat) (x : ByteArray × Int) (l : Fo) (a : Option Addr) (c : Nat) (w : World), nodesF l ≤ k → SigAt w sa sn S → TmAt w x a c l →
  Calls Try.prog 48 #[.slice sa sn sc, .agg #[.string x.1, .int .i64 x.2, .slice a (lenF l) c]] w fun e w' => e = .returned (.int .i64 (errT S x l)) ∧ Below w.heap.size w w'

set_option maxRecDepth 100000 in
set_option maxHeartbeats 1000000 in
theorem nodes_all (S : List Sym) : ∀ k, NdOk S k := by
  intro k
  induction k using Nat.strongRecOn with
  | _ k ih =>
    intro sa sn sc x l a c w hk hS hT
    have HS : Hid (SigAt w sa sn S) := hS
    have HT : Hid (TmAt w x a c l) := hT
    have IH : Hid (∀ j, j < k → NdOk S j) := ih
    have O0 : Hid (One w x a (lenF l) c (w.alloc (.cells #[.string x.1, .int .i64 x.2, .slice a (lenF l) c] 28))) := One.new _ _ _ _ _
    have hn : lenF l ≤ 9223372036854775807 := by have := hT.sizes.len; have := hT.sizes.cap; unfold maxLen at *; omega
    have hC := node_any S sa sn sc x a (lenF l) c _ (hS.below O0.out.low) hT.sizes.name
    clear hT ih hS
    go_enter Try.func48, Try.ntmps48
    go_wp2_with fail
    refine hC.mono ?_
    rintro e w2 ⟨rfl, hb⟩
    have O2 : Hid (One w x a (lenF l) c w2) := O0.out.below hb
    clear hC hb O0
    go_wp2
    go_loopw [5, 6] (fun er i wr => ∃ (j : Nat) (q : Int), j ≤ lenF l ∧ er = .int .i64 q ∧ i = .int .i64 j ∧ One w x a (lenF l) c wr ∧ errT S x l = thenC q (errF S (dropF j l))) (fun _ i _ => lenF l - (intOf i).toNat)
    case atStart => exact ⟨0, _, Nat.zero_le _, rfl, rfl, O2.out, by rw [drop_zero]; rfl⟩
    case round =>
      obtain ⟨j, q, hj, rfl, rfl, hO, her⟩ := hrel
      have t2 := hO.t.c2
      by_cases hlt : j < lenF l
      · cases hq : (q == 0)
        · have her' : Hid (errT S x l = q) := by show _ = _; rw [her]; unfold thenC; rw [if_neg (by simpa using hq)]
          clear her
          go_wp2
          go_ret
          exact ⟨by rw [her'.out]; rfl, hO.low⟩
        · obtain ⟨b1, o1, rfl, hk1⟩ := HT.out.args.get (by omega)
          obtain ⟨z, a1, c1, l1, kd⟩ := hk1.kid (k := j) hlt
          have kd' := kd.below hO.low
          obtain ⟨B1, O1, s1⟩ := kd.split
          have hq0 : q = 0 := by simpa using hq
          rw [s1, errF] at her
          have HER : Hid (errT S x l = thenC (errT S z l1) (errF S (dropF (j + 1) l))) := by show _ = _; rw [her, hq0]; rfl
          have p0 := kd'.name; have p1 := kd'.sym; have p2 := kd'.list
          have hC := IH.out (nodesF l1) (by have := kd.less; omega) sa sn sc z l1 a1 c1 wr (Nat.le_refl _) (HS.out.below hO.low) kd'.at_
          have HO : Hid (One w x (some ⟨b1, o1, none⟩) (lenF l) c wr) := hO
          clear kd kd' hk1 her s1 hO
          go_wp2_with fail
          refine hC.mono ?_
          rintro e w3 ⟨rfl, hb⟩
          have HO2 : Hid (One w x (some ⟨b1, o1, none⟩) (lenF l) c w3) := HO.out.below hb
          clear hC hb p0 p1 p2 t2
          go_wp2
          go_roundw
          case rel => exact ⟨j + 1, _, by omega, rfl, by go_num, HO2.out, HER.out⟩
          case measure => simp [intOf]; omega
      · have e1 : j = lenF l := by omega
        have her' : Hid (errT S x l = q) := by
          show _ = _
          rw [her, e1, drop_end, errF]; unfold thenC
          split
          · rename_i h; exact h.symm
          · rfl
        clear her
        go_wp2
        go_ret
        exact ⟨by rw [her'.out]; rfl, hO.low⟩

set_option maxHeartbeats 1000000 in
theorem rtcheck_any (S : List Sym) (sa : Option Addr) (sn sc : Nat) (x : ByteArray × Int) (l : Fo) (a : Option Addr) (c : Nat) (w : World) (hS : SigAt w sa sn S) (hT : TmAt w x a c l) :
    Calls Try.prog 28 #[.slice sa sn sc, .agg #[.string x.1, .int .i64 x.2, .slice a (lenF l) c]] w fun e w' => e = .returned (.int .i64 (chk S x l)) ∧ Below w.heap.size w w' := by
  have HS : Hid (SigAt w sa sn S) := hS
  have HT : Hid (TmAt w x a c l) := hT
  have O0 : Hid (One w x a (lenF l) c (w.alloc (.cells #[.string x.1, .int .i64 x.2, .slice a (lenF l) c] 28))) := One.new _ _ _ _ _
  have hC := Over_any x l a c _ (hT.below O0.out.low)
  clear hS hT
  go_enter Try.func28, Try.ntmps28
  go_wp2_with fail
  refine hC.mono ?_
  rintro e w2 ⟨rfl, hb⟩
  have O2 : Hid (One w x a (lenF l) c w2) := O0.out.below hb
  clear hC hb O0
  have c0 := O2.out.t.c0; have c1 := O2.out.t.c1; have c2 := O2.out.t.c2
  have hE : chk S x l = if 40 < nodesF l + 1 then 34 else errT S x l := rfl
  cases hd : decide (40 < nodesF l + 1)
  · rw [if_neg (by simpa using hd)] at hE
    have HE : Hid (chk S x l = errT S x l) := hE
    clear hE
    go_wp2_with fail
    refine (nodes_all S _ sa sn sc x l a c w2 (Nat.le_refl _) (HS.out.below O2.out.low) (HT.out.below O2.out.low)).mono ?_
    rintro e w3 ⟨rfl, hb⟩
    go_wp2
    go_ret
    exact ⟨by rw [HE.out]; rfl, O2.out.low.trans (hb.mono O2.out.low.size)⟩
  · rw [if_pos (by simpa using hd)] at hE
    have HE : Hid (chk S x l = 34) := hE
    clear hE
    go_wp2
    go_ret
    exact ⟨by rw [HE.out]; rfl, O2.out.low⟩
end Go.Proofs.Ytkcbhbkldcebiaa
