/- For every signature SigPlain returns true: Plain of package sig is the signature in which each ACU symbol is AC without a unit, as the document says, in new memory, and what was handed in stays; no condition. -/
import Derived.Test.YtpngaeabkmbefaaHead
import Derived.Test.YtpngaeabkmbefaaKept
import Derived.Test.YtpngaeabkmbefaaRPlain
import Derived.Test.YtpngaeabkmbefaaOpenSig
namespace Go.Proofs.Ytpngaeabkmbefaa
open Go.ChangeShapes Go.WideShapes Go.ChangeAt Go.RowKit

theorem room_below {w w' : World} {g n : Nat} (h : Room w g n) (hb : Below w.heap.size w w') : Room w' g n := fun j hj => by
  obtain ⟨⟨v, hv⟩, hf⟩ := h j hj
  have hlt : g < w.heap.size := World.block_lt_of_cell? w _ hv
  exact ⟨⟨v, (hb.cell (p := ⟨g, j, none⟩) hlt).trans hv⟩, (hb.frozen (p := ⟨g, j, none⟩) hlt).trans hf⟩
theorem room_setCell {w : World} {g n : Nat} (h : Room w g n) (p : Addr) (u : Value) : Room (w.setCell p u) g n := fun j hj => by
  obtain ⟨⟨v, hv⟩, hf⟩ := h j hj
  refine ⟨?_, by rw [World.frozen?_setCell]; exact hf⟩
  obtain ⟨v', hv'⟩ := cell?_setCell_some (w := w) (p := p) (x := u) (q := ⟨g, j, none⟩) (v := v) hv
  exact ⟨v', hv'⟩

set_option maxHeartbeats 400000 in
theorem sigPlain_walk (a : Option Addr) (n cap : Nat) (_ : n ≤ cap) (l : List Sym) (w : World) (h : SigAt w a n l) (hr : n * 48 ≤ 140737488351232) :
    Calls Try.prog 6 #[.slice a n cap] w fun e w' => e = .returned (.bool true) ∧ Below w.heap.size w w' := by
  have HS : Hid (SigAt w a n l) := h
  have hlen : Hid (n = l.length) := h.len
  clear h
  go_enter Try.func6, Try.ntmps6
  go_wp2_with fail
  refine (head_any _).mono ?_
  rintro e w1 ⟨rfl, hb1⟩
  have HB1 : Hid (Below w.heap.size w w1) := hb1
  clear hb1
  go_wp2_with fail
  refine (lent_any a n cap l _ (HS.out.below HB1.out) hr).mono ?_
  rintro e w2 ⟨v, rfl, ⟨g, cap2, rfl, hg, hc2, hs2⟩, hb2⟩
  have HS2 : Hid (SigAt w2 (some ⟨g, 0, none⟩) (n + 1) (l ++ [markS])) := hs2
  have HB2 : Hid (Below w.heap.size w w2) := HB1.out.trans (hb2.mono HB1.out.size)
  clear hs2 hb2
  go_wp2_with fail
  refine (splain_any _ _ _ l _ (HS2.out.front hlen.out) hr).mono ?_
  rintro e w3 ⟨gp, rfl, hgp, hs3, hr3, hb3⟩
  have HP3 : Hid (SigAt w3 (some ⟨gp, 0, none⟩) n (l.map plainS)) := hs3
  have HR3 : Hid (Room w3 gp n) := hr3
  have HC3 : Hid (Below w2.heap.size w2 w3) := hb3
  have HB3 : Hid (Below w.heap.size w w3) := HB2.out.trans (hb3.mono HB2.out.size)
  clear hb3 hs3 hr3
  go_wp2_with fail
  refine (rplain_any _ _ _ l _ (HS.out.below HB3.out) hr).mono ?_
  rintro e w4 ⟨aq, capq, rfl, hs4, hb4⟩
  have HP4 : Hid (SigAt w4 (some ⟨gp, 0, none⟩) n (l.map plainS)) := HP3.out.below hb4
  have HQ4 : Hid (SigAt w4 aq n (l.map plainS)) := hs4
  have HR4 : Hid (Room w4 gp n) := room_below HR3.out hb4
  have HC4 : Hid (Below w2.heap.size w2 w4) := HC3.out.trans (hb4.mono HC3.out.size)
  clear hb4 hs4
  go_wp2_with fail
  refine (same_any _ _ _ _ _ (l.map plainS) _ HP4.out HQ4.out).mono ?_
  rintro e w5 ⟨rfl, hb5⟩
  have HR5 : Hid (Room w5 gp n) := room_below HR4.out hb5
  have HC5 : Hid (Below w2.heap.size w2 w5) := HC4.out.trans (hb5.mono HC4.out.size)
  clear hb5
  go_wp2
  go_loopw [7] (fun i w' => ∃ k : Nat, k ≤ n ∧ i = .int .i64 k ∧ Below w2.heap.size w2 w' ∧ Room w' gp n) (fun i _ => n - (intOf i).toNat)
  case atStart => exact ⟨0, Nat.zero_le _, rfl, HC5.out, HR5.out⟩
  case round =>
    obtain ⟨k, hk, rfl, hb, hroom⟩ := hrel
    have HC : Hid (Below w2.heap.size w2 wr) := hb
    have HR : Hid (Room wr gp n) := hroom
    clear hb hroom
    by_cases hlt : k < n
    · obtain ⟨⟨z0, r0⟩, f0⟩ := HR.out (k * 4) (by omega)
      go_wp2
      go_roundw
      case rel => exact ⟨k + 1, by omega, by go_num, HC.out.setCell hgp _, room_setCell HR.out _ _⟩
      case measure => simp [intOf]; omega
    · have HB : Hid (Below w.heap.size w wr) := HB2.out.trans (HC.out.mono HB2.out.size)
      go_wp2_with fail
      refine (kept_any g cap2 a n cap l _ hc2 (HS2.out.below HC.out) (HS.out.below HB.out) hr).mono ?_
      rintro e w7 ⟨rfl, hb7⟩
      have HB7 : Hid (Below w.heap.size w w7) := HB.out.trans (hb7.mono HB.out.size)
      clear hb7
      go_wp2
      go_ret
      exact ⟨rfl, HB7.out⟩

set_option maxRecDepth 100000 in
theorem sigPlain_lifted (os : Os) (started : os.Started) (H : Type) (enc : TypeId × Value → H) :
    ReturnsInHanded {} Try.checked os 6 .any (Rows.sigPlainSpec.pre6 enc Try.prog Try.f6 Rows.sigPlainRow.domain false) (Rows.sigPlainSpec.post enc Try.prog Try.f6 false true false false) := by
  refine returnsInHanded_of_change_sized (C := Try.checked) own started (by kernel_rfl) Try.func6
    (ChangeSpec.witness6 (enc := enc) (C := Try.checked) false ⟨#[], #[.slice none 0 0], []⟩ 8 (by kernel_rfl) (by kernel_rfl) (by kernel_rfl) (by kernel_rfl)) ?_
  intro W base args ds gs before hval0 hW hcnd hsz0 _
  have hval : ∀ (j : Nat) t v, Try.f6.params[j]? = some t → args[j]? = some v → Value.okWide Try.prog W .any base t v := hval0
  have hsz : (DataW.weightsEach Try.prog (Try.f6.params.toList ++ Rows.sigPlainSpec.plain.varTypes Try.prog) (ds ++ gs)).all (· ≤ reachBytes) = true := hsz0
  have hW' := hW
  obtain ⟨p, q, hA0, hV, rfl, hfz, hnd⟩ := hW
  have hA : DataW.TrodAll enc Try.prog W 0 (fun _ => true) true Try.f6.params.toList args.toList ds p := hA0
  rw [Try.params6] at hA hval hsz
  obtain ⟨v0, vs0, d0, ds0, p0, q0, hargs, rfl, rfl, h0, r0⟩ := trodAll_cons hA
  obtain ⟨rfl, rfl, rfl⟩ := trodAll_nil r0
  obtain rfl : args = #[v0] := by cases args; simp_all
  obtain ⟨rfl, rfl⟩ := trodVars_none hV
  obtain ⟨a0, len0, cap0, rfl⟩ := okWide_slice Try.underlying27 (hval 0 27 v0 rfl rfl)
  have k0 := h0
  have lt0 : ∀ x ∈ p0, x.block < W.heap.size := by obtain ⟨m, hm⟩ := k0; exact DataW.trod_lt m _ _ _ hm
  obtain ⟨l, hl, hcap, ho⟩ := sig_open h0
  have hr := sig_sized hsz (j := 0) rfl rfl ho
  clear hA0 hval0 hsz0
  refine (sigPlain_walk a0 len0 cap0 hcap l W hl hr).mono fun e W' ⟨he, bel⟩ => ?_
  subst he
  exact ⟨_, rfl, _, _, _, [], _, [], hW', trodAll_mk1 (shut_bool Try.underlying4 _), (trodAll_cons_mk (Below.trod laidOut (by kernel_rfl) (of_decide_eq_true (by kernel_rfl)) k0 bel lt0) trodAll_mk0), rfl, bel.frame _, fun h => by cases h⟩

theorem sigPlain_holds : Rows.SigPlainSaid :=
  OpenClaim.holds_of_wide 6 Try.f6 rfl rfl rfl rfl rfl rfl rfl ⟨rfl, rfl, rfl, rfl, rfl⟩ rfl rfl rfl rfl rfl (by kernel_rfl) Try.func6 (by kernel_rfl)
    (of_decide_eq_true (by kernel_rfl)) (by unfold Func.isWrapper; first | (rw [if_pos (by decide +kernel)]; kernel_rfl) | (rw [if_neg (by decide +kernel)]; exact ⟨rfl, rfl⟩))
    (fun os started H enc _ => sigPlain_lifted os started H enc)
end Go.Proofs.Ytpngaeabkmbefaa
