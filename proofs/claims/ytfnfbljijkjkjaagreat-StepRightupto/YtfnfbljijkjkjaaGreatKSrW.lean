import Derived.Test.YtfnfbljijkjkjaaGreatKSrT
/- The walk of StepRight. -/
namespace Go.Proofs.YtfnfbljijkjkjaaGreat
open Go.RowKit Go.Deep

set_option maxRecDepth 100000 in
theorem stepRight_walk (q : Gv) (w : World) (hT : GvAt w q) (hs : GvSz q) : Calls Tryz.prog 3 #[.agg q.cells] w fun e w' => e = .returned (.bool true) ∧ Below w.heap.size w w' := by
  obtain ⟨S, n, cap, sg, ⟨⟨xn, xs⟩, l⟩, ⟨⟨yn, ys⟩, m⟩, a, b, c, d, p, pc, bs⟩ := q
  obtain ⟨hG, hS, hU, hB⟩ := hT
  obtain ⟨hsg, hall⟩ := hs
  dsimp only at *
  have hbl : bs.length ≤ 1048576 := by have := totB_len bs; omega
  have hnd : ∀ b ∈ bs, nodesF b.2.2 ≤ 1048576 := fun b hb => by have := totB_mem hb; omega
  have hM : nodesF l ≤ 1048576 := by omega
  have hN : nodesF m ≤ 1048576 := by omega
  cases hp : plainB sg ((xn, xs), l) ((yn, ys), m)
  · exact right_none S n cap sg xn yn xs ys l m a b c d p pc bs w hG hS hU hB hM hN hsg hbl hnd hp
  · cases hc : decide ((chkB (sg.map plainS) bs none 0).1 = 0)
    · exact right_not S n cap sg xn yn xs ys l m a b c d p pc bs w hG hS hU hB hM hN hsg hbl hnd hp hc
    · rcases act_is (right_law hp (chk_rights bs none 0 (of_decide_eq_true hc))) with hv | hv | hv | hv | hv
      · exact right_done S n cap sg xn yn xs ys l m a b c d p pc bs w hG hS hU hB hM hN hsg hbl hnd hp hc hv
      · exact right_fail S n cap sg xn yn xs ys l m a b c d p pc bs w hG hS hU hB hM hN hsg hbl hnd hp hc hv
      · exact right_set S n cap sg xn yn xs ys l m a b c d p pc bs w hG hS hU hB hM hN hsg hbl hnd hp hc hv
      · exact right_parts S n cap sg xn yn xs ys l m a b c d p pc bs w hG hS hU hB hM hN hsg hbl hnd hp hc hv
      · exact right_pure S n cap sg xn yn xs ys l m a b c d p pc bs w hG hS hU hB hM hN hsg hbl hnd hp hc hv
end Go.Proofs.YtfnfbljijkjkjaaGreat
