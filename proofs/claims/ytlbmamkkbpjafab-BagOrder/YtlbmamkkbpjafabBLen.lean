/- What Len and Items answer. -/
import Derived.Test.YtlbmamkkbpjafabBAdd
namespace Go.Proofs.Ytlbmamkkbpjafab
open Go.RowKit Go.Deep

def sumN (l : List It) : Int := (l.map (·.2)).sum
theorem sumN_take (l : List It) (k : Nat) (h : k < l.length) : sumN (l.take (k + 1)) = sumN (l.take k) + l[k].2 := by
  unfold sumN
  rw [List.take_succ_eq_append_getElem h, List.map_append, List.sum_append]
  show _ + (l[k].2 + 0) = _
  rw [Int.add_zero]
set_option maxRecDepth 100000 in
set_option maxHeartbeats 2000000 in
/-- Len. -/
theorem len_any (B : Nat) (p : Option Addr) (c : Nat) (l : List It) (w : World) (hB : BagBox w B (.slice p l.length c)) (hI : ItsAt w p l.length l) (hn : l.length ≤ 1048576) (hb : ∀ k, k ≤ l.length → -1000000000000 ≤ sumN (l.take k) ∧ sumN (l.take k) ≤ 1000000000000) (hy : ∀ i (h : i < l.length), -1000000000000 ≤ l[i].2 ∧ l[i].2 ≤ 1000000000000) :
    Calls Try.prog 11 #[.pointer (some ⟨B, 0, none⟩)] w fun e w' => e = .returned (.int .i64 (sumN l)) ∧ Below w.heap.size w w' := by
  have HI := hid hI; have HB := hid hb; have HY := hid hy
  have f1 := hB.c1
  clear hI hb hy
  go_enter Try.func11, Try.ntmps11
  go_wp2_with fail
  clear f1
  go_loopw [3, 5, 11] (fun nv _ iv wr => ∃ i : Nat, iv = .int .i64 i ∧ nv = .int .i64 (sumN (l.take i)) ∧ i ≤ l.length ∧ Below w.heap.size w wr) (fun _ _ iv _ => l.length - (intOf iv).toNat)
  case atStart => exact ⟨0, rfl, rfl, Nat.zero_le _, Below.refl _ _⟩
  case round =>
    obtain ⟨i, rfl, rfl, hi, hbl⟩ := hrel
    have HBl := hid hbl
    clear hbl
    by_cases hlt : i < l.length
    · obtain ⟨b1, o1, rfl, e1, e2, e3⟩ := (HI.out.below HBl.out).cells i hlt
      go_wp2_with fail
      refine (sum_any _ _ _ (HB.out i hi) (HY.out i hlt)).mono ?_
      rintro e w1 ⟨rfl, rfl⟩
      rw [← sumN_take l i hlt]
      have b4 := alloc_below0 wr (.cells #[.int .i64 l[i].1.1, .int .i64 l[i].1.2, .int .i64 l[i].2] 32)
      have HB4 := hid (HBl.out.trans (b4.mono HBl.out.size))
      clear b4 e1 e2 e3
      go_wp2_with fail
      go_roundw
      case rel => exact ⟨i + 1, by go_num, rfl, by omega, HB4.out⟩
      case measure => simp [intOf]; omega
    · have he : i = l.length := by omega
      have ht : l.take i = l := List.take_of_length_le (by omega)
      rw [ht]
      go_wp2_with fail
      go_ret
      exact ⟨rfl, HBl.out⟩
set_option maxRecDepth 100000 in
set_option maxHeartbeats 2000000 in
/-- Clone of items. -/
theorem clone_any (p : Option Addr) (c : Nat) (l : List It) (base : Nat) (w : World) (hO : w.ownsRow base 32 3 (.slice p l.length c) l.length (itAll l)) (hn : l.length ≤ 1048576) :
    Calls Try.prog 17 #[.slice p l.length c] w fun e w' => ∃ v', e = .returned v' ∧ w'.ownsRow w.heap.size 32 3 v' l.length (itAll l) ∧ Below w.heap.size w w' := by
  by_cases hp : p = none
  · subst hp
    rcases hO.2 with ⟨h1, h2⟩ | ⟨g, cap, cur, h1, _⟩
    · have hl : l = [] := List.eq_nil_of_length_eq_zero h2
      subst hl
      cases h1
      refine Calls.mono (clone_none w) ?_
      rintro e w' ⟨rfl, rfl⟩
      exact ⟨_, rfl, World.ownsRow_nil _ _ _ _, Below.refl _ _⟩
    · cases h1
  · obtain ⟨a, rfl⟩ := Option.ne_none_iff_exists'.1 hp
    have h1 : (binOp .eql 29 (.slice (some a) l.length c) (.slice none 0 0)).run Try.prog w = .ok (.bool false) w := rfl
    have b1 := alloc_below0 w (.cells #[] 32)
    have hE : (w.alloc (.cells #[] 32)).ownsRow w.heap.size 32 3 (.slice (some ⟨w.heap.size, 0, none⟩) 0 0) 0 [] := ⟨rfl, .inr ⟨w.heap.size, 0, #[], rfl, Nat.le_refl _, World.alloc_heap_new w _, Nat.le_refl _, Nat.zero_le _, rfl, rfl⟩⟩
    by_cases hl : l.length = 0
    · have hl' : l = [] := List.eq_nil_of_length_eq_zero hl
      subst hl'
      have h1 : (binOp .eql 29 (.slice (some a) 0 c) (.slice none 0 0)).run Try.prog w = .ok (.bool false) w := rfl
      have h2 : (loadCellsFrom a 0 0 #[]).run Try.prog (w.alloc (.cells #[] 32)) = .ok #[] (w.alloc (.cells #[] 32)) := rfl
      have h3 : (storeCells ⟨w.heap.size, 0, none⟩ []).run Try.prog (w.alloc (.cells #[] 32)) = .ok () (w.alloc (.cells #[] 32)) := rfl
      have L1 := hid b1; have HE := hid hE
      clear b1 hE hO hl
      go_enter Try.func17, Try.ntmps17
      go_wp2_with fail
      go_ret
      exact ⟨_, rfl, HE.out, L1.out⟩
    · obtain ⟨g, hg, _, hR⟩ := rowIt_of hO (by omega)
      cases hg
      obtain ⟨i0, hi, hz0, hz1, hz2⟩ := info_parts Try.info32
      have HN : Hid (∀ j u, (itAll l)[j]? = some u → (w.alloc (.cells #[] 32)).cell? ((⟨g, 0, none⟩ : Addr).add j) = some u) := hid fun j u hj => by
        rw [Addr.add_lit, Nat.zero_add]
        exact below_cell b1 _ _ (hR.cells hj)
      have L1 := hid b1; have HE := hid hE
      clear b1 hE hO hR
      go_enter Try.func17, Try.ntmps17
      go_wp2_with (at_builtin; refine wpList_append_lies _ rfl _ _ 29 rfl w.heap.size 32 i0 _ 3 24 Try.underlying29 hi hz0 hz1 hz2 rfl (by decide) (.slice (some ⟨w.heap.size, 0, none⟩) 0 0) 0 [] rfl HE.out ⟨g, 0, none⟩ l.length c (itAll l) rfl (itAll_len l) HN.out (itAll_one l) (by omega) (by unfold maxLen; omega) (by omega) L1.out.size _ rfl ?_; intro g' cap' w' h1 h2 _ _; have H1 := hid h1; have H2 := hid h2; clear h1 h2)
      all_goals
        go_ret
        refine ⟨_, rfl, ?_, L1.out.trans ((fr_grown H2.out).below (fun k hk => by have h4 : some w.heap.size = some k := hk; have := Option.some.inj h4; omega) L1.out.size)⟩
        have h5 := H1.out
        rw [Nat.zero_add, List.nil_append] at h5
        exact h5
set_option maxRecDepth 100000 in
/-- Items. -/
theorem items_any (base B : Nat) (p : Option Addr) (c : Nat) (l : List It) (w : World) (hA : BagAt base B w l p c) (hn : l.length ≤ 1048576) :
    Calls Try.prog 7 #[.pointer (some ⟨B, 0, none⟩)] w fun e w' => ∃ v', e = .returned v' ∧ w'.ownsRow w.heap.size 32 3 v' l.length (itAll l) ∧ Below w.heap.size w w' := by
  have f1 := hA.1.c1
  have HC := hid (clone_any p c l base w hA.2.1 hn)
  clear hA
  go_enter Try.func7, Try.ntmps7
  go_wp2_with fail
  refine HC.out.mono ?_
  rintro e w1 ⟨v', rfl, h1, h2⟩
  have H1 := hid h1; have H2 := hid h2
  clear h1 h2 f1
  go_wp2_with fail
  go_ret
  exact ⟨_, rfl, H1.out, H2.out⟩
end Go.Proofs.Ytlbmamkkbpjafab
