import Derived.Test.YtfnfbljijkjkjaaGreatKUfO
/- allFree of the program. -/
namespace Go.Proofs.YtfnfbljijkjkjaaGreat
open Go.RowKit Go.Deep Go.Shelf

def fr1 (S : List Sym) (x : ByteArray × Int) : Bool := !noName x.1 || freeB S x.2
def afF (S : List Sym) : Fo → Bool
  | .nil => true
  | .node _ _ x l r => (fr1 S x && afF S l) && afF S r
def afT (S : List Sym) (x : ByteArray × Int) (l : Fo) : Bool := fr1 S x && afF S l
def AfOk (S : List Sym) (sa : Option Addr) (sn sc : Nat) (k : Nat) : Prop := ∀ (x : ByteArray × Int) (l : Fo) (a : Option Addr) (c : Nat) (w : World), nodesF l < k → SigAt w sa sn S → TmAt w x a c l →
  Calls Tryz.prog 27 #[.slice sa sn sc, .agg #[.string x.1, .int .i64 x.2, .slice a (lenF l) c]] w fun e w' => e = .returned (.bool (afT S x l)) ∧ Below w.heap.size w w'
set_option maxRecDepth 100000 in
set_option maxHeartbeats 1000000 in
theorem aclo_of {S : List Sym} {sa : Option Addr} {sn sc k : Nat} (hR : AfOk S sa sn sc k) (x : ByteArray × Int) (l : Fo) (a : Option Addr) (c sb : Nat) (w : World) (hk : nodesF l < k) (hS : SigAt w sa sn S) (hT : TmAt w x a c l) (hB : Boxed w sb 23 (.slice sa sn sc)) :
    Calls Tryz.prog 49 #[.agg #[.string x.1, .int .i64 x.2, .slice a (lenF l) c], .pointer (some ⟨sb, 0, none⟩)] w fun e w' => e = .returned (.bool (!afT S x l)) ∧ Below w.heap.size w w' := by
  have bx := alloc_below0 w (.cells #[.string x.1, .int .i64 x.2, .slice a (lenF l) c] 26)
  have H := hid (hR x l a c _ hk (hS.below bx) (hT.below bx))
  have X : XBox (w.alloc (.cells #[.string x.1, .int .i64 x.2, .slice a (lenF l) c] 26)) w.heap.size x (.slice a (lenF l) c) := World.alloc_heap_new w _
  have c0 := X.c0; have c1 := X.c1; have c2 := X.c2
  have s0 := (boxed_below hB bx).cell
  have HB := hid bx
  clear hR hS hT hB X bx
  go_enter Tryz.func49, Tryz.ntmps49
  go_wp2_with fail
  refine H.out.mono ?_
  rintro e w1 ⟨rfl, hb1⟩
  have HB1 := hid (HB.out.trans (hb1.mono HB.out.size))
  clear hb1 c0 c1 c2 s0
  go_wp2_with fail
  go_ret
  exact ⟨rfl, HB1.out⟩
set_option maxRecDepth 100000 in
set_option maxHeartbeats 1000000 in
theorem aidx_of {S : List Sym} {sa : Option Addr} {sn sc k : Nat} (hR : AfOk S sa sn sc k) (x : ByteArray × Int) (l : Fo) (a : Option Addr) (c sb : Nat) (w : World) (hk : nodesF l ≤ k) (hS : SigAt w sa sn S) (hT : TmAt w x a c l) (hB : Boxed w sb 23 (.slice sa sn sc)) :
    Calls Tryz.prog 71 #[.slice a (lenF l) c, .func (.func 49) #[] #[.pointer (some ⟨sb, 0, none⟩)]] w fun e w' => ∃ r : Int, e = .returned (.int .i64 r) ∧ (decide (0 ≤ r) = !afF S l) ∧ Below w.heap.size w w' := by
  have HT := hid hT; have HS := hid hS; have HB := hid hB; have HR := hid hR
  have hln : lenF l ≤ 2932031007402 := by have := hT.sizes.few; omega
  clear hT hS hB hR
  go_enter Tryz.func71, Tryz.ntmps71
  go_wp2
  go_loopw [4, 5, 8] (fun _ _ i wr => ∃ j : Nat, j ≤ lenF l ∧ i = .int .i64 j ∧ Below w.heap.size w wr ∧ afF S (dropF j l) = afF S l) (fun _ _ i _ => lenF l - (intOf i).toNat)
  case atStart => exact ⟨0, Nat.zero_le _, rfl, Below.refl _ _, by rw [drop_zero]⟩
  case round =>
    obtain ⟨j, hj, rfl, hb, hm⟩ := hrel
    have HW := hid hb
    by_cases hlt : j < lenF l
    · obtain ⟨b1, o1, rfl, hk1⟩ := HT.out.args.get (by omega)
      obtain ⟨z, a1, c1, l1, kd⟩ := hk1.kid (k := j) hlt
      have kd' := kd.below hb
      obtain ⟨B1, O1', s1⟩ := kd.split
      rw [s1] at hm
      have p0 := kd'.name; have p1 := kd'.sym; have p2 := kd'.list
      have hm' : (afT S z l1 && afF S (dropF (j + 1) l)) = afF S l := hm
      have HM := hid hm'
      have HC := hid (aclo_of HR.out z l1 a1 c1 sb wr (by have := kd.less; omega) (HS.out.below hb) kd'.at_ (boxed_below HB.out hb))
      obtain ⟨bv, hbv⟩ : ∃ bv, afT S z l1 = bv := ⟨_, rfl⟩
      rw [hbv] at HC HM
      clear kd kd' s1 hk1 hm hm' hb hbv
      go_wp2_with fail
      refine HC.out.mono ?_
      rintro e w1 ⟨rfl, hb1⟩
      have HW1 := hid (HW.out.trans (hb1.mono HW.out.size))
      clear hb1 p0 p1 p2 HC
      cases bv
      · go_wp2_with fail
        go_ret
        refine ⟨j, rfl, ?_, HW1.out⟩
        rw [← HM.out]
        simp
      · go_wp2_with fail
        go_roundw
        case rel => exact ⟨j + 1, by omega, by go_num, HW1.out, by rw [← HM.out]; rfl⟩
        case measure => simp [intOf]; omega
    · have e1 : j = lenF l := by omega
      rw [e1, drop_end] at hm
      have HM := hid hm
      clear hm hb
      go_wp2
      go_ret
      exact ⟨-1, rfl, by rw [← HM.out]; rfl, HW.out⟩
set_option maxRecDepth 100000 in
set_option maxHeartbeats 1000000 in
theorem acont_of {S : List Sym} {sa : Option Addr} {sn sc k : Nat} (hR : AfOk S sa sn sc k) (x : ByteArray × Int) (l : Fo) (a : Option Addr) (c sb : Nat) (w : World) (hk : nodesF l ≤ k) (hS : SigAt w sa sn S) (hT : TmAt w x a c l) (hB : Boxed w sb 23 (.slice sa sn sc)) :
    Calls Tryz.prog 48 #[.slice a (lenF l) c, .func (.func 49) #[] #[.pointer (some ⟨sb, 0, none⟩)]] w fun e w' => e = .returned (.bool (!afF S l)) ∧ Below w.heap.size w w' := by
  have H := hid (aidx_of hR x l a c sb w hk hS hT hB)
  clear hR hS hT hB
  go_enter Tryz.func48, Tryz.ntmps48
  go_wp2_with fail
  refine H.out.mono ?_
  rintro e w1 ⟨r, rfl, hr, hb1⟩
  have HB := hid hb1; have HR := hid hr
  clear hb1 hr
  go_wp2_with fail
  go_ret
  exact ⟨by rw [← HR.out]; rfl, HB.out⟩
set_option maxRecDepth 100000 in
set_option maxHeartbeats 2000000 in
theorem allFree_of {S : List Sym} {sa : Option Addr} {sn sc k : Nat} (hR : AfOk S sa sn sc k) : AfOk S sa sn sc (k + 1) := by
  intro x l a c w hk hG hT
  obtain ⟨xn, xs⟩ := x
  obtain ⟨b1, b2, hb0⟩ := two_new w #[.slice sa sn sc] 23 #[.string xn, .int .i64 xs, .slice a (lenF l) c] 26
  have H42 := hid fun (W : World) (hW : Below w.heap.size w W) => isFree_any sa sn sc S xs W (hG.below hW)
  have H48 := hid fun (W : World) (hW : Below w.heap.size w W) (hB : Boxed W w.heap.size 23 (.slice sa sn sc)) => acont_of hR (xn, xs) l a c w.heap.size W (by omega) (hG.below hW) (hT.below hW) hB
  have HB0 := hid hb0
  have HBX : Hid (Boxed ((w.alloc (.cells #[.slice sa sn sc] 23)).alloc (.cells #[.string xn, .int .i64 xs, .slice a (lenF l) c] 26)) w.heap.size 23 (.slice sa sn sc)) := hid b1
  have z0 := b1.c 0; have y0 := b2.c 0; have y1 := b2.c 1; have y2 := b2.c 2
  unfold afT fr1
  dsimp only
  clear hG hT b1 b2 hb0 hR
  cases he : xn.toList.isEmpty
  · have hnn : noName xn = false := he
    rw [hnn]
    have HNN := hid hnn
    clear hnn
    go_enter Tryz.func27, Tryz.ntmps27
    go_wp2_with (go_at_call 48; refine (H48.out _ HB0.out HBX.out).mono ?_; rintro e w1 ⟨rfl, hb1⟩; have HB1 := hid (HB0.out.trans (hb1.mono HB0.out.size)); clear hb1)
    go_ret
    exact ⟨by simp, HB1.out⟩
  · have hnn : noName xn = true := he
    rw [hnn]
    cases hf : freeB S xs
    · rw [hf] at H42
      go_enter Tryz.func27, Tryz.ntmps27
      go_wp2_with (go_at_call 44; refine (H42.out _ HB0.out).mono ?_; rintro e w1 ⟨rfl, rfl⟩)
      go_ret
      exact ⟨rfl, HB0.out⟩
    · rw [hf] at H42
      go_enter Tryz.func27, Tryz.ntmps27
      go_wp2_with (first
        | (go_at_call 44; refine (H42.out _ HB0.out).mono ?_; rintro e w1 ⟨rfl, rfl⟩)
        | (go_at_call 48; refine (H48.out _ HB0.out HBX.out).mono ?_; rintro e w1 ⟨rfl, hb1⟩; have HB1 := hid (HB0.out.trans (hb1.mono HB0.out.size)); clear hb1))
      go_ret
      exact ⟨by simp, HB1.out⟩
theorem allFree_all (S : List Sym) (sa : Option Addr) (sn sc : Nat) : ∀ k, AfOk S sa sn sc k
  | 0 => fun x l a c w hk => absurd hk (by omega)
  | k + 1 => allFree_of (allFree_all S sa sn sc k)
theorem allFree_any (S : List Sym) (sa : Option Addr) (sn sc : Nat) (x : ByteArray × Int) (l : Fo) (a : Option Addr) (c : Nat) (w : World) (hG : SigAt w sa sn S) (hT : TmAt w x a c l) :
    Calls Tryz.prog 27 #[.slice sa sn sc, .agg #[.string x.1, .int .i64 x.2, .slice a (lenF l) c]] w fun e w' => e = .returned (.bool (afT S x l)) ∧ Below w.heap.size w w' := allFree_all S sa sn sc (nodesF l + 1) x l a c w (Nat.lt_succ_self _) hG hT
end Go.Proofs.YtfnfbljijkjkjaaGreat
