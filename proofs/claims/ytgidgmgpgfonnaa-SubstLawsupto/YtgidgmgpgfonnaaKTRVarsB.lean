import Derived.Test.YtgidgmgpgfonnaaKSub
/- What the document's Vars answers. -/
namespace Go.Proofs.Ytgidgmgpgfonnaa
open Go.RowKit Go.Deep

set_option maxRecDepth 100000 in
set_option maxHeartbeats 1000000 in
theorem rvars_any (x : ByteArray × Int) (l : Fo) (a : Option Addr) (c : Nat) (w : World) (hT : TmAt w x a c l) (hbig : nodesF l + 1 ≤ 1048576) :
    Calls Try.prog 25 #[.agg #[.string x.1, .int .i64 x.2, .slice a (lenF l) c]] w fun e w' => ∃ v, e = .returned v ∧ w'.ownsRow w.heap.size 9 1 v (Lib.compact (sortL (namesN x ++ namesFo l))).length ((Lib.compact (sortL (namesN x ++ namesFo l))).map encStr) ∧ Below w.heap.size w w' := by
  have hl1 := namesN_len x
  have hl2 := namesFo_len l
  have hbb : (([] : List Nm).length + nodesF l + 2) * 16 ≤ 140737488355328 := by rw [List.length_nil]; exact Nat.le_trans (Nat.mul_le_mul_right 16 (show 0 + nodesF l + 2 ≤ 1048578 by omega)) (by decide)
  have hC := names_all (nodesF l) w x l a c (.slice none 0 0) [] (w.alloc (.cells #[.string x.1, .int .i64 x.2, .slice a (lenF l) c] 27)) (Nat.le_refl _) hT ((Below.refl _ _).alloc (Nat.le_refl _) _) (World.ownsRow_nil _ _ _ _) hbb
  obtain ⟨ss, hss⟩ : ∃ ss, namesN x ++ namesFo l = ss := ⟨_, rfl⟩
  have hsl : ss.length ≤ nodesF l + 1 := by rw [← hss, List.length_append]; omega
  rw [List.nil_append, hss] at hC
  rw [hss]
  clear hss hl1 hl2 hbb
  have hb0 : Hid (Below w.heap.size w (w.alloc (.cells #[.string x.1, .int .i64 x.2, .slice a (lenF l) c] 27))) := (Below.refl _ w).alloc (Nat.le_refl _) _
  go_enter Try.func25, Try.ntmps25
  go_wp2_with fail
  refine hC.mono ?_
  rintro e w1 ⟨v1, rfl, hr, hn⟩
  obtain ⟨a1, c1, rfl, _, _, hT1, _, _⟩ := texts_of_owns hr
  have HN : Hid (Below w.heap.size w w1) := hb0.out.trans hn.low
  have hC2 := Names_any a1 _ c1 _ w1 hT1 (by omega)
  clear hr hn hT1 hC
  go_wp2_with fail
  refine hC2.mono ?_
  rintro e w2 ⟨v2, rfl, hr2, hn2⟩
  have HR2 : Hid (w2.ownsRow w1.heap.size 9 1 v2 (Lib.compact (sortL ss)).length ((Lib.compact (sortL ss)).map encStr)) := hr2
  have HN2 : Hid (Below w1.heap.size w1 w2) := hn2
  clear hr2 hn2 hC2
  go_wp2
  go_ret
  exact ⟨v2, rfl, own_base9 HR2.out HN.out.size, HN.out.trans (HN2.out.mono HN.out.size)⟩
end Go.Proofs.Ytgidgmgpgfonnaa
