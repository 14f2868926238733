import Derived.Test.YtgidgmgpgfonnaaGreatKSInS
/- The walk of SubstChecks. -/
namespace Go.Proofs.YtgidgmgpgfonnaaGreat
open Go.RowKit Go.Deep

set_option maxRecDepth 100000 in
set_option maxHeartbeats 8000000 in
theorem substChecks_walk (q : Sm) (w : World) (hq : SmAt w q) (hz : SmSz q) : Calls Tryz.prog 3 #[.agg q.cells] w fun e w' => e = .returned (.bool true) ∧ Below w.heap.size w w' := by
  obtain ⟨S, n, cap, sg, pa, ca, ls, pb, cb, bs, ⟨x, l⟩, a, c, pn, cn, ns, f⟩ := q
  have hz1 := hz.all
  have HQ := hid hq
  dsimp only at hz1
  have hln := totB_len ls
  have I0 : Hid (InS w (Sm.cells ⟨S, n, cap, sg, pa, ca, ls, pb, cb, bs, (x, l), a, c, pn, cn, ns, f⟩) (w.alloc (.cells (Sm.cells ⟨S, n, cap, sg, pa, ca, ls, pb, cb, bs, (x, l), a, c, pn, cn, ns, f⟩) 30))) := hid (InS.new w _)
  have HSG := hid fun (W : World) (hW : Below w.heap.size w W) => (HQ.out.below hW).sig
  have HLS := hid fun (W : World) (hW : Below w.heap.size w W) => (HQ.out.below hW).ls
  dsimp only at HSG HLS
  unfold Sm.cells at I0 ⊢
  dsimp only at I0 ⊢
  have hl1 : ls.length ≤ 1048575 := by omega
  have HN : Hid (∀ b ∈ ls, nodesF b.2.2 ≤ 1048576) := hid fun b hb => by have := totB_mem hb; omega
  obtain ⟨bv, hbv⟩ : ∃ bv, (checkE sg == 0) = bv := ⟨_, rfl⟩
  have HBV := hid hbv
  clear hz hq hz1 hln HQ hbv
  go_enter Tryz.func3, Tryz.ntmps3
  go_wp2_with fail
  refine (shead_any _).mono ?_
  rintro e w1 ⟨rfl, hb1⟩
  have I1 := hid (I0.out.below hb1)
  clear I0 hb1
  have i1 := I1.out.box.c 1
  go_wp2_with fail
  refine (lentb_any pa ca ls w1 (HLS.out w1 I1.out.low) hl1).mono ?_
  rintro e w2 ⟨g2, cap2, rfl, hL2, _, hb2⟩
  have I2 := hid (I1.out.below hb2)
  have L2 := hid hL2
  clear I1 hb2 hL2 i1
  have i0 := I2.out.box.c 0
  go_wp2_with fail
  refine (pcheck_any S n cap sg (some ⟨g2, 0, none⟩) cap2 ls w2 (HSG.out w2 I2.out.low) L2.out.binds (by omega) HN.out).mono ?_
  rintro e w3 ⟨ec, qp, rfl, hres, hb3⟩
  have I3 := hid (I2.out.below hb3); have L3 := hid (L2.out.below hb3); have HRS := hid hres
  clear I2 L2 hb3 hres i0
  have i1 := I3.out.box.c 1
  go_wp2_with fail
  refine (keptb_any g2 cap2 pa ca ls w3 L3.out (HLS.out w3 I3.out.low) (by omega)).mono ?_
  rintro e w4 ⟨rfl, hb4⟩
  have I4 := hid (I3.out.below hb4)
  clear I3 L3 hb4 i1
  have i0 := I4.out.box.c 0
  go_wp2_with fail
  refine (sright_any S n cap sg w4 (HSG.out w4 I4.out.low)).mono ?_
  rintro e w5 ⟨he, hb5⟩
  rw [HBV.out] at he
  subst he
  have I5 := hid (I4.out.below hb5)
  clear I4 hb5 i0
  cases bv with
  | false =>
    go_wp2
    go_ret
    exact ⟨rfl, I5.out.low⟩
  | true =>
  have hck : checkE sg = 0 := by simpa using HBV.out
  have hR := HRS.out hck
  have HR := hid hR
  clear hck hR HBV HRS
  have i0 := I5.out.box.c 0; have i1 := I5.out.box.c 1
  go_wp2_with fail
  refine (rchk_any S n cap sg pa ca ls w5 (HSG.out w5 I5.out.low) (HLS.out w5 I5.out.low) (by omega) HN.out).mono ?_
  rintro e w6 ⟨he, hb6⟩
  rw [HR.out] at he
  subst he
  have I6 := hid (I5.out.below hb6)
  clear I5 hb6 i0 i1
  go_wp2
  go_ret
  exact ⟨rfl, I6.out.low⟩
end Go.Proofs.YtgidgmgpgfonnaaGreat
