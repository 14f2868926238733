/- What Join answers. -/
import Derived.Test.YtlbmamkkbpjafaaBCat
namespace Go.Proofs.Ytlbmamkkbpjafaa
open Go.RowKit Go.Deep

theorem bl_over {w w1 : World} (h : Below w.heap.size w w1) (o : Obj) : Below w.heap.size w (w1.alloc o) := h.alloc h.size _
set_option maxRecDepth 100000 in
set_option maxHeartbeats 8000000 in
theorem join_gen (B base : Nat) (cv : Value) (p : Option Addr) (c : Nat) (l m : List It) (w : World) (hA : BagAt base B w l p c) (hl : Bg l) (hln : l.length ≤ 1048576) (hm : Bg m) (hmn : m.length ≤ 1048576) (hR : ∀ W, Below w.heap.size w W → Calls Try.prog 42 #[.pointer (some ⟨B, 0, none⟩), cv] W (NewRow W m)) :
    Calls Try.prog 16 #[.pointer (some ⟨B, 0, none⟩), cv] w (NewBag w (canB (l ++ m))) := by
  have k0 := hA.1.c0; have k1 := hA.1.c1
  have Q0 := hid k0; have Q1 := hid k1; have HR := hid hR; have HA := hid hA
  have HCC : Hid (∀ W q d, Below w.heap.size w W → W.ownsRow w.heap.size 65 3 (.slice q m.length d) m.length (itAll m) → Calls Try.prog 41 #[.slice (some ⟨W.heap.size, 0, none⟩) 2 2] (W.alloc (.cells #[.slice p l.length c, .slice q m.length d] 61)) (NewRow (W.alloc (.cells #[.slice p l.length c, .slice q m.length d] 61)) (l ++ m))) := hid fun W q d hW hO =>
    concat_any W.heap.size 0 p c l q d m _ (World.alloc_heap_new W _) (owns65_mono (owns65_below (owns65_below hA.2.1 hW) (alloc_below0 W _)) (Nat.zero_le _)) (owns65_mono (owns65_below hO (alloc_below0 W _)) (Nat.zero_le _)) (by omega) (by omega)
  have hsum : sumN (l ++ m) ≤ 1000000000 := by rw [sumN_app]; have := hl.sum; have := hm.sum; omega
  have hpos : ∀ y ∈ l ++ m, 1 ≤ y.2 := fun y hy => (List.mem_append.1 hy).elim (hl.pos y) (hm.pos y)
  have HGA : Hid (∀ W q d, W.ownsRow w.heap.size 65 3 (.slice q (l ++ m).length d) (l ++ m).length (itAll (l ++ m)) → w.heap.size ≤ W.heap.size → Calls Try.prog 40 #[ordV, .slice q (l ++ m).length d] W fun e w' => ∃ q' d', e = .returned (.slice q' (canB (l ++ m)).length d') ∧ w'.ownsRow w.heap.size 65 3 (.slice q' (canB (l ++ m)).length d') (canB (l ++ m)).length (itAll (canB (l ++ m))) ∧ Below w.heap.size W w') := hid fun W q d hO hW => by
    refine Calls.mono (gather_any w.heap.size q d (l ++ m) W hO (by rw [List.length_append]; omega) hpos hsum) ?_
    rintro e w' ⟨v', rfl, h1, h2⟩
    obtain ⟨q', d', rfl⟩ := owns65_form h1
    exact ⟨q', d', rfl, owns65_mono h1 hW, h2.below (fun k hk => (hO.lt k (by rw [own_eq]; exact hk)).1) hW⟩
  clear hR hA hsum hpos hl hm
  obtain ⟨L, hL⟩ : ∃ L, l ++ m = L := ⟨_, rfl⟩
  rw [hL] at HGA ⊢
  simp only [hL] at HCC
  clear hL
  go_enter Try.func16, Try.ntmps16
  go_wp2_with fail
  clear k0 k1
  go_region_held3 (fun w' => w'.cell? ⟨B, 0, none⟩ = some ordV ∧ w'.cell? ⟨B, 1, none⟩ = some (.slice p l.length c)) ((first
    | (refine ⟨?_, ?_⟩ <;> (with_reducible refine below_cell (w := w) ?_ _ _ ?_; (solve | (repeat' first | (with_reducible exact Below.refl _ w) | (with_reducible exact HB3.out) | (with_reducible exact HB2.out) | (with_reducible exact HB1.out) | (with_reducible refine Below.drew ?_) | (with_reducible refine bl_over ?_ _))); first | exact Q0.out | exact Q1.out))
    | fail)) ((first
    | (go_at_call 42; refine Calls.mono (HR.out _ ?_) ?_; (exact (Below.refl _ w).drew); rintro e w1 ⟨q1, d1, rfl, ho1, hb1⟩; have HB1 : Hid (Below w.heap.size w w1) := ((Below.refl _ w).drew).trans hb1; have HO1 : Hid (w1.ownsRow w.heap.size 65 3 (.slice q1 m.length d1) m.length (itAll m)) := ho1; clear hb1 ho1)
    | (go_at_call 41; refine Calls.mono (HCC.out w1 q1 d1 HB1.out HO1.out) ?_; rintro e w2 ⟨q2, d2, rfl, ho2, hb2⟩; have HB2 : Hid (Below w.heap.size w w2) := (bl_over HB1.out (.cells #[.slice p l.length c, .slice q1 m.length d1] 61)).trans (hb2.mono (bl_over HB1.out (.cells #[.slice p l.length c, .slice q1 m.length d1] 61)).size); have HO2 : Hid (w2.ownsRow w.heap.size 65 3 (.slice q2 L.length d2) L.length (itAll L)) := owns65_mono ho2 (bl_over HB1.out (.cells #[.slice p l.length c, .slice q1 m.length d1] 61)).size; clear hb2 ho2)
    | (go_at_call 40; refine Calls.mono (HGA.out _ _ _ HO2.out HB2.out.size) ?_; rintro e w3 ⟨q3, d3, rfl, ho3, hb3⟩; have HB3 : Hid (Below w.heap.size w w3) := HB2.out.trans hb3; have HO3 := hid ho3; clear hb3 ho3)
    | fail))
  all_goals
    go_wp2_with fail
    go_ret
    refine ⟨w3.heap.size, q3, d3, rfl, ⟨World.alloc_heap_new w3 _, owns65_below HO3.out (alloc_below0 w3 _), fun e => ?_⟩, HB3.out.size, bl_over HB3.out _⟩
    have := (HO3.out.lt _ (by rw [own_eq]; exact e)).2
    omega
end Go.Proofs.Ytlbmamkkbpjafaa
