import Derived.Test.YtgidgmgpgfonnaaGreatKSCompP
/- What both of the statements answers. -/
namespace Go.Proofs.YtgidgmgpgfonnaaGreat
open Go.RowKit Go.Deep

set_option maxRecDepth 100000 in
set_option maxHeartbeats 4000000 in
theorem both_any (q : Sm) (w : World) (hq : SmAt w q) (hz : SmSz q) : Calls Tryz.prog 12 #[.agg q.cells] w fun e w' => e = .returned (.bool ((checkE q.sg == 0) && (decide ((chkB q.sg q.ls none 0).1 = 0) && decide ((chkB q.sg q.bs none 0).1 = 0)))) ∧ Below w.heap.size w w' := by
  obtain ⟨S, n, cap, sg, pa, ca, ls, pb, cb, bs, ⟨x, l⟩, a, c, pn, cn, ns, f⟩ := q
  have hz1 := hz.all
  have HQ := hid hq
  dsimp only at hz1
  have hln := totB_len ls
  have hlb := totB_len bs
  have hnd : ∀ b ∈ ls, nodesF b.2.2 ≤ 1048576 := fun b hb => by have := totB_mem hb; omega
  have hnd2 : ∀ b ∈ bs, nodesF b.2.2 ≤ 1048576 := fun b hb => by have := totB_mem hb; omega
  have I0 : Hid (InS w (Sm.cells ⟨S, n, cap, sg, pa, ca, ls, pb, cb, bs, (x, l), a, c, pn, cn, ns, f⟩) (w.alloc (.cells (Sm.cells ⟨S, n, cap, sg, pa, ca, ls, pb, cb, bs, (x, l), a, c, pn, cn, ns, f⟩) 30))) := hid (InS.new w _)
  have HSR := hid fun (W : World) (hW : Below w.heap.size w W) => sright_any S n cap sg W (HQ.out.below hW).sig
  have HIA := hid fun (W : World) (hW : Below w.heap.size w W) => ris_any S n cap sg pa ca ls W (HQ.out.below hW).sig (HQ.out.below hW).ls (by omega) hnd
  have HIB := hid fun (W : World) (hW : Below w.heap.size w W) => ris_any S n cap sg pb cb bs W (HQ.out.below hW).sig (HQ.out.below hW).bs (by omega) hnd2
  unfold Sm.cells at I0 ⊢
  dsimp only at I0 ⊢
  obtain ⟨v1, hv1⟩ : ∃ v, (checkE sg == 0) = v := ⟨_, rfl⟩
  obtain ⟨v2, hv2⟩ : ∃ v, decide ((chkB sg ls none 0).1 = 0) = v := ⟨_, rfl⟩
  obtain ⟨v3, hv3⟩ : ∃ v, decide ((chkB sg bs none 0).1 = 0) = v := ⟨_, rfl⟩
  rw [hv1] at HSR
  rw [hv2] at HIA
  rw [hv3] at HIB
  rw [hv1, hv2, hv3]
  clear hz hq hnd hnd2 hz1 hln hlb HQ hv1 hv2 hv3
  have i0 := I0.out.box.c 0
  go_enter Tryz.func12, Tryz.ntmps12
  go_wp2_with fail
  refine (HSR.out _ I0.out.low).mono ?_
  rintro e w1 ⟨rfl, hb1⟩
  have I1 := hid (I0.out.below hb1)
  clear I0 hb1 i0 HSR
  cases v1 with
  | false =>
    go_wp2
    go_ret
    exact ⟨rfl, I1.out.low⟩
  | true =>
    have i0 := I1.out.box.c 0; have i1 := I1.out.box.c 1
    go_wp2_with fail
    refine (HIA.out _ I1.out.low).mono ?_
    rintro e w2 ⟨rfl, hb2⟩
    have I2 := hid (I1.out.below hb2)
    clear I1 hb2 i0 i1 HIA
    have i0 := I2.out.box.c 0; have i2 := I2.out.box.c 2
    go_wp2_with fail
    refine (HIB.out _ I2.out.low).mono ?_
    rintro e w3 ⟨rfl, hb3⟩
    have I3 := hid (I2.out.below hb3)
    clear I2 hb3 i0 i2 HIB
    cases v2 with
    | false =>
      go_wp2
      go_ret
      exact ⟨rfl, I3.out.low⟩
    | true =>
      go_wp2
      go_ret
      exact ⟨by cases v3 <;> rfl, I3.out.low⟩
end Go.Proofs.YtgidgmgpgfonnaaGreat
