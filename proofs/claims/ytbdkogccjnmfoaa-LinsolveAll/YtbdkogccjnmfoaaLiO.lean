/- All: its function values. -/
import Derived.Test.YtbdkogccjnmfoaaLiN
namespace Go.Proofs.Ytbdkogccjnmfoaa
open Go.RowKit Go.Shelf

attribute [local go_sem] Oper.semAt_some
/-- The equation of coefficients. -/
def pbOf (a b : List Int) : Pb := ⟨a.length, b.length, fun i => (a.getD i 0).toNat, fun i => (b.getD i 0).toNat⟩
theorem chk_zero {a b : List Int} (h : chkE a b = 0) : a.length ≤ 5 ∧ b.length ≤ 5 ∧ a.any badK = false ∧ b.any badK = false := by
  unfold chkE at h
  split at h
  · omega
  · split at h
    · omega
    · rename_i h1 h2
      refine ⟨by omega, by omega, ?_, ?_⟩
      · cases h3 : a.any badK
        · rfl
        · exact absurd (.inl h3) h2
      · cases h3 : b.any badK
        · rfl
        · exact absurd (.inr h3) h2
theorem badK_not {a : List Int} (h : a.any badK = false) (i : Nat) (hi : i < a.length) : 1 ≤ a[i] ∧ a[i] ≤ 6 := by
  have := List.any_eq_false.1 h a[i] (List.getElem_mem hi)
  unfold badK at this
  simp at this
  omega
theorem pb_ok {a b : List Int} (h : chkE a b = 0) : (pbOf a b).Ok 6 6 where
  a1 := fun i hi => by
    have hi' : i < a.length := hi
    have := badK_not (chk_zero h).2.2.1 i hi'
    show 1 ≤ (a.getD i 0).toNat ∧ (a.getD i 0).toNat ≤ 6
    rw [List.getD_eq_getElem?_getD, List.getElem?_eq_getElem hi', Option.getD_some]
    omega
  b1 := fun i hi => by
    have hi' : i < b.length := hi
    have := badK_not (chk_zero h).2.2.2 i hi'
    show 1 ≤ (b.getD i 0).toNat ∧ (b.getD i 0).toNat ≤ 6
    rw [List.getD_eq_getElem?_getD, List.getElem?_eq_getElem hi', Option.getD_some]
    omega
  hA := by omega
  hB := by omega
theorem pb_a {a b : List Int} (h : chkE a b = 0) (i : Nat) (hi : i < a.length) : a[i] = ((pbOf a b).a i : Int) := by
  have := badK_not (chk_zero h).2.2.1 i hi
  show a[i] = (((a.getD i 0).toNat : Nat) : Int)
  rw [List.getD_eq_getElem?_getD, List.getElem?_eq_getElem hi, Option.getD_some]
  omega
theorem pb_b {a b : List Int} (h : chkE a b = 0) (i : Nat) (hi : i < b.length) : b[i] = ((pbOf a b).b i : Int) := by
  have := badK_not (chk_zero h).2.2.2 i hi
  show b[i] = (((b.getD i 0).toNat : Nat) : Int)
  rw [List.getD_eq_getElem?_getD, List.getElem?_eq_getElem hi, Option.getD_some]
  omega
/-- How All ends. -/
def AllEnd (a b : List Int) (w : World) (e : Ending) (w' : World) : Prop := Below w.heap.size w w' ∧ ((chkE a b ≠ 0 ∧ e = .returned (.func (.func 35) #[] #[])) ∨ (chkE a b = 0 ∧ ∃ B0, e = .returned (.func (.func 36) #[] #[.pointer (some ⟨B0, 0, none⟩)]) ∧ SdAt (fun q => w.heap.size ≤ q ∧ q < w'.heap.size) w' B0 (pbOf a b)))
set_option maxRecDepth 100000 in
set_option maxHeartbeats 4000000 in
theorem all_any (p : Option Addr) (c : Nat) (a : List Int) (q : Option Addr) (d : Nat) (b : List Int) (w : World) (hA : IntsAt w p a) (hB : IntsAt w q b) :
    Calls Try.prog 21 #[.slice p a.length c, .slice q b.length d] w (AllEnd a b w) := by
  have HCK := hid (check_any p c a q d b w hA hB)
  have HA := hid hA; have HB := hid hB
  clear hA hB
  by_cases h0 : chkE a b = 0
  · obtain ⟨l5, l6, _, _⟩ := chk_zero h0
    rw [h0] at HCK
    have HC1 := hid (clone_any p c a w HA.out (by omega))
    have H0 := hid h0
    clear h0
    go_enter Try.func21, Try.ntmps21
    go_wp2_with fail
    refine HCK.out.mono ?_
    rintro e w1 ⟨rfl, rfl⟩
    go_wp2_with fail
    refine HC1.out.mono ?_
    rintro e w2 ⟨q1, d1, rfl, hR1, hb1⟩
    have HC2 := hid (clone_any q d b w2 (HB.out.below hb1) (by omega))
    have HR1 := hid hR1; have HB1 := hid hb1
    clear hR1 hb1 HC1
    go_wp2_with fail
    refine HC2.out.mono ?_
    rintro e w3 ⟨q2, d2, rfl, hR2, hb2⟩
    have hs1 := HB1.out.size; have hs2 := hb2.size
    have b3 := alloc_below0 w3 (.cells #[.slice q1 a.length d1, .slice q2 b.length d2] 48)
    have hbb : Below w1.heap.size w1 (w3.alloc (.cells #[.slice q1 a.length d1, .slice q2 b.length d2] 48)) := HB1.out.trans ((hb2.mono hs1).trans (b3.mono (by omega)))
    have hsd : SdAt (fun q => w1.heap.size ≤ q ∧ q < (w3.alloc (.cells #[.slice q1 a.length d1, .slice q2 b.length d2] 48)).heap.size) (w3.alloc (.cells #[.slice q1 a.length d1, .slice q2 b.length d2] 48)) w3.heap.size (pbOf a b) := by
      rw [World.size_alloc]
      refine ⟨⟨q1, d1, a, q2, d2, b, World.alloc_heap_new w3 _, ?_, ?_, rfl, rfl, pb_a H0.out, pb_b H0.out⟩, by constructor <;> omega⟩
      · have h1 := (HR1.out.below hb2).ints
        exact (h1.same (fun b hb => b3.block b hb.2)).mono (fun b hb => by omega)
      · have h1 := hR2.ints
        exact (h1.same (fun b hb => b3.block b hb.2)).mono (fun b hb => by omega)
    have HBB := hid hbb; have HSD := hid hsd
    clear hbb hsd b3 hR2 hb2 hs1 hs2 HC2
    go_wp2_with fail
    go_ret
    exact ⟨HBB.out, .inr ⟨H0.out, _, rfl, HSD.out⟩⟩
  · obtain ⟨z, hz⟩ : ∃ z, chkE a b = z := ⟨_, rfl⟩
    have H0 := hid h0
    rw [hz] at HCK h0
    have h0' : (z != 0) = true := by simpa using h0
    clear hz h0
    go_enter Try.func21, Try.ntmps21
    go_wp2_with fail
    refine HCK.out.mono ?_
    rintro e w1 ⟨rfl, rfl⟩
    go_wp2_with fail
    go_ret
    exact ⟨Below.refl _ _, .inl ⟨H0.out, rfl⟩⟩
set_option maxRecDepth 100000 in
theorem none_in (n lp : Nat) (W0 : World) : CallsIn Fence.wide n Try.prog 35 #[.func (.yield lp) #[] #[]] W0 fun e W' => (∃ v, e = .returned v) ∧ W' = W0 := by
  refine callsIn_of_wp Try.func35 rfl trivial ?_ rfl
  simp only [Try.ntmps35, List.size_toArray, List.length_cons, List.length_nil, Nat.reduceAdd, Nat.reduceSub, Array.replicate_succ, Array.replicate_zero, List.push_toArray, List.append_toArray, List.nil_append, List.cons_append]
  gi_wp2
  refine bodyPost_end (results_none rfl _ _ _) rfl ?_
  exact ⟨⟨_, rfl⟩, rfl⟩
end Go.Proofs.Ytbdkogccjnmfoaa
