import Derived.Test.YtfnfbljijkjkjaaGreatKSChk
/- What the document's Is answers of binds. -/
namespace Go.Proofs.YtfnfbljijkjkjaaGreat
open Go.RowKit Go.Deep

set_option maxRecDepth 100000 in
set_option maxHeartbeats 2000000 in
theorem ris_any (S : Option Addr) (n cap : Nat) (sg : List Sym) (p : Option Addr) (bcap : Nat) (bs : List Bn) (w : World) (hS : SigAt w S n sg) (hB : BindsAt w p bs.length bs) (hn : bs.length ≤ 1048576) (hnd : ∀ b ∈ bs, nodesF b.2.2 ≤ 1048576) :
    Calls Tryz.prog 8 #[.slice S n cap, .slice p bs.length bcap] w fun e w' => e = .returned (.bool (decide ((chkB sg bs none 0).1 = 0))) ∧ Below w.heap.size w w' := by
  have HC := hid (rchk_any S n cap sg p bcap bs w hS hB hn hnd)
  obtain ⟨⟨ev, iv⟩, hev⟩ : ∃ R, chkB sg bs none 0 = R := ⟨_, rfl⟩
  rw [hev] at HC ⊢
  clear hev hS hB
  go_enter Tryz.func8, Tryz.ntmps8
  go_wp2_with fail
  refine HC.out.mono ?_
  rintro e w1 ⟨rfl, hb1⟩
  have HL := hid hb1
  clear hb1 HC
  go_wp2_with fail
  go_ret
  exact ⟨rfl, HL.out⟩
end Go.Proofs.YtfnfbljijkjkjaaGreat
