/- The library's Itoa and Atoi; the program's Name and the document's. -/
import Derived.Test.YtppgmepmegelbaaGreatDoorRows
import Derived.Test.YtppgmepmegelbaaGreatDoorRjB
import Derived.Test.YtppgmepmegelbaaGreatDoorRjP
import Derived.WalkSmall
import Derived.Lib.SmallJoins
import Derived.Lib.AtoiErrMem
import Derived.Lib.LaidTab
import Derived.WalkKit
import Derived.BigCall
namespace Go.Proofs.YtppgmepmegelbaaGreatDoor
open Go.RowKit Go.Sort

/-- The library's table of powers, and that its error stands. -/
def Std (w : World) : Prop := Lib.TabIs Tryz.prog w (Rows.rejoinNamesRow.named.headD "") .u64 Lib.pow10Tab ∧ ∃ te pe, w.cell? ⟨1, 0, none⟩ = some (.iface te pe)

theorem itoa_any (n : Int) (h0 : -9223372036854775808 ≤ n) (h1 : n ≤ 9223372036854775807) (w : World) (hs : Std w) :
    Calls Tryz.prog 35 #[.int .i64 n] w fun e w' => e = .returned (.string ⟨(Lib.itoa n).toArray⟩) ∧ ∃ k os, w' = grow (w.drewN k) os :=
  Any.strconv_Itoa Tryz.laysItoa n h0 h1 w hs.1

theorem atoi_ok (s : ByteArray) (n : Int) (hl : s.size ≤ 18) (h : Lib.atoi s.data.toList = some n) (w : World) :
    Calls Tryz.prog 61 #[.string s] w fun e w' => e = .returned (.tuple #[.int .i64 n, .nilIface]) ∧ ∃ t, w' = Lib.bytesWorld w 5 t :=
  Any.strconv_Atoi Tryz.laysAtoi s n hl h w

theorem atoi_err (s : ByteArray) (hl : s.size ≤ 18) (h : Lib.atoi s.data.toList = none) (w : World) (hs : Std w) :
    Calls Tryz.prog 61 #[.string s] w fun e w' => (∃ te pe, e = .returned (.tuple #[.int .i64 0, .iface te pe])) ∧ Below w.heap.size w w' := by
  obtain ⟨te, pe, hv⟩ := hs.2
  refine (Any.strconv_Atoi_err Tryz.laysAtoiC s hl h _ w hv (.inr ⟨te, pe, rfl⟩)).mono ?_
  rintro e w' ⟨N, rfl, -, -, hb⟩
  exact ⟨⟨_, _, rfl⟩, hb⟩

theorem gPow : Tryz.prog.globalNamed (Rows.rejoinNamesRow.named.headD "") = some 0 := by kernel_rfl
theorem below_grown (w : World) (k : Nat) (os : Array Obj) : Below w.heap.size w (grow (w.drewN k) os) := by
  refine ⟨rfl, rfl, rfl, ?_, fun b hb => ?_⟩
  · show w.heap.size ≤ (w.heap ++ os).size
    rw [Array.size_append]; omega
  · show (w.heap ++ os)[b]? = w.heap[b]?
    rw [Array.getElem?_append_left hb]
theorem Std.below {w w' : World} (h : Std w) (hb : Below w.heap.size w w') (h0 : 0 < w.heap.size) : Std w' := by
  obtain ⟨h1, te, pe, h2⟩ := h
  have hg : 1 < w.heap.size := Lib.lt_of_cell h2
  exact ⟨var?_below hb gPow h0 h1, te, pe, (hb.cell hg).trans h2⟩
theorem Std.pos {w : World} (h : Std w) : 0 < w.heap.size := by
  obtain ⟨-, te, pe, h2⟩ := h
  have hg : 1 < w.heap.size := Lib.lt_of_cell h2
  omega

def strB (l : List UInt8) : ByteArray := ⟨l.toArray⟩

theorem nd_small (u : Nat) (h : u < 10 ^ 19) : Lib.nDigits u ≤ 19 := (nd_le 19 u (by omega)).mpr h
theorem itoa_short (n : Int) (h0 : -9223372036854775808 ≤ n) (h1 : n ≤ 9223372036854775807) : (Lib.itoa n).length ≤ 20 := by
  have e : (10 : Nat) ^ 19 = 10000000000000000000 := by decide
  unfold Lib.itoa
  split
  · rw [List.length_cons, Lib.decDigits_length]
    have := nd_small n.natAbs (by omega); omega
  · rw [Lib.decDigits_length]
    have := nd_small n.toNat (by omega); omega

set_option maxRecDepth 100000 in
set_option maxHeartbeats 2000000 in
theorem pname_any (n : Int) (h0 : -9223372036854775808 ≤ n) (h1 : n ≤ 9223372036854775807) (w : World) (hs : Std w) :
    Calls Tryz.prog 14 #[.int .i64 n] w fun e w' => e = .returned (.string (strB (nameL n))) ∧ Below w.heap.size w w' := by
  have hl := itoa_short n h0 h1
  go_enter Tryz.func14, Tryz.ntmps14
  go_wp2_with (go_at_call 35; refine (itoa_any n h0 h1 _ hs).mono ?_; rintro e w' ⟨rfl, k, os, rfl⟩)
  · rename_i hA hB
    go_ret
    refine ⟨?_, below_grown _ _ _⟩
    have hB2 : 12 < (95 :: Lib.itoa n).length := by rw [List.length_cons]; omega
    have := (name_long hA).mp hB2
    rw [show nameL n = [] by unfold nameL; rw [if_pos (.inr this)]]
    rfl
  · rename_i hA hB
    go_ret
    refine ⟨?_, below_grown _ _ _⟩
    have hB2 : ¬ 12 < (95 :: Lib.itoa n).length := by rw [List.length_cons]; omega
    have hB3 : ¬ 99999999999 < n := fun h => hB2 ((name_long hA).mpr h)
    rw [show nameL n = 95 :: Lib.itoa n by unfold nameL; rw [if_neg (by omega)]]
    rfl
  · rename_i hA
    go_ret
    refine ⟨?_, below_grown _ _ _⟩
    rw [show nameL n = [] by unfold nameL; rw [if_pos (.inl hA)]]
    rfl

end Go.Proofs.YtppgmepmegelbaaGreatDoor
