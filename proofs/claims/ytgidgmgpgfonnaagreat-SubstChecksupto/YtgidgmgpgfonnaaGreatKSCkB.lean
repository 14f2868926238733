import Derived.Deep.DeepCutAuto
import Derived.Test.YtgidgmgpgfonnaaGreatKSBk
/- The walks of checkBind and Check of package subst. -/
namespace Go.Proofs.YtgidgmgpgfonnaaGreat
open Go.RowKit Go.Deep

set_option maxRecDepth 100000 in
set_option maxHeartbeats 8000000 in
theorem checkBind_any (S : Option Addr) (n cap : Nat) (sg : List Sym) (ahead vn : ByteArray) (x : ByteArray × Int) (l : Fo) (a : Option Addr) (c : Nat) (w : World) (hS : SigAt w S n sg) (hT : TmAt w x a c l) (hv : vn.size ≤ maxLen) (hk : nodesF l ≤ 1048576) :
    Calls Tryz.prog 19 #[.slice S n cap, .string ahead, .agg #[.string vn, .string x.1, .int .i64 x.2, .slice a (lenF l) c]] w fun e w' => ∃ ec, e = .returned (.int .i64 ec) ∧ CkR sg ahead vn x l ec ∧ Below w.heap.size w w' := by
  obtain ⟨W0, hW0⟩ : ∃ W0, w.alloc (.cells #[.string vn, .string x.1, .int .i64 x.2, .slice a (lenF l) c] 43) = W0 := ⟨_, rfl⟩
  have hb0 : Below w.heap.size w W0 := by rw [← hW0]; exact (Below.refl _ w).alloc (Nat.le_refl _) _
  have b1 : Box W0 w.heap.size 43 #[.string vn, .string x.1, .int .i64 x.2, .slice a (lenF l) c] := by rw [← hW0]; exact World.alloc_heap_new w _
  have HV := hid (svar_any vn W0 hv)
  have HF := hid fun (W : World) (hW : Below w.heap.size w W) => fits_any (.map none) (fun _ => none) x l a c W (hT.below hW) (TabV.none _)
  have HR := hid fun (W : World) (hW : Below w.heap.size w W) => right_all sg S n cap (nodesF l + 1) x l a c W (by omega) (hS.below hW) (hT.below hW)
  have HI := hid fun (W : World) (hW : Below w.heap.size w W) => pis_any S n cap sg (x, l) a c W (hS.below hW) (hT.below hW) hk
  dsimp only at HI
  have HB0 := hid hb0; have H1 := hid b1
  have c0 := b1.c 0
  clear hS hT hb0 b1
  obtain ⟨bv, hbv⟩ : ∃ bv, ckBad ahead vn x = bv := ⟨_, rfl⟩
  have HBV := hid hbv
  go_enter Tryz.func19, Tryz.ntmps19
  go_wp2_with fail
  clear hW0
  refine HV.out.mono ?_
  rintro e w1 ⟨rfl, hb1⟩
  have X1 := H1.out.below hb1
  have HB1 := hid (HB0.out.trans (hb1.mono HB0.out.size)); have HX1 := hid X1
  clear c0 hb1 HV H1
  have d0 := X1.c 0; have d1 := X1.c 1
  clear X1
  clear hbv HBV bv
  cases hvb : varB vn with
  | false =>
    have HK : Hid (ckBad ahead vn x = true) := hid (by unfold ckBad; simp [hvb])
    go_wp2
    go_ret
    exact ⟨71, rfl, .inl ⟨HK.out, rfl⟩, HB1.out⟩
  | true =>
  cases hl1 : Op.bytesLess vn.toList ahead.toList with
  | true =>
    have HK : Hid (ckBad ahead vn x = true) := hid (by unfold ckBad leS; simp [hl1])
    go_wp2
    go_ret
    exact ⟨71, rfl, .inl ⟨HK.out, rfl⟩, HB1.out⟩
  | false =>
  cases hlb : (vn.toList == ahead.toList) with
  | true =>
    have HK : Hid (ckBad ahead vn x = true) := hid (by unfold ckBad leS; rw [hlb]; simp)
    go_wp2
    go_ret
    exact ⟨71, rfl, .inl ⟨HK.out, rfl⟩, HB1.out⟩
  | false =>
  cases heb : (x.1.toList == vn.toList) with
  | true =>
    have HK : Hid (ckBad ahead vn x = true) := hid (by unfold ckBad; rw [heb]; simp)
    go_wp2
    go_ret
    exact ⟨71, rfl, .inl ⟨HK.out, rfl⟩, HB1.out⟩
  | false =>
  have HK : Hid (ckBad ahead vn x = false) := hid (by unfold ckBad leS; rw [heb, hvb, hl1, hlb]; rfl)
  have d2 := HX1.out.c 2; have d3 := HX1.out.c 3
  go_wp2_with fail
  refine (HF.out w1 HB1.out).mono ?_
  rintro e w2 ⟨rfl, hb2⟩
  have HB2 := hid (HB1.out.trans (hb2.mono HB1.out.size)); have HX2 := hid (HX1.out.below hb2)
  clear hb2 d0 d1 d2 d3 HF HX1
  by_cases hfit : 0 ≤ leftN (fun _ => none) x l 400
  · have HFT := hid hfit
    rw [decide_eq_true hfit]
    clear hfit
    have d1 := HX2.out.c 1; have d2 := HX2.out.c 2; have d3 := HX2.out.c 3
    go_wp2_with fail
    refine (HR.out w2 HB2.out).mono ?_
    rintro e w3 ⟨rfl, hb3⟩
    have HB3 := hid (HB2.out.trans (hb3.mono HB2.out.size)); have HX3 := hid (HX2.out.below hb3)
    clear hb3 d1 d2 d3 HX2
    cases hrg : rgT sg x l with
    | false =>
      have HG := hid hrg
      go_wp2
      go_ret
      exact ⟨72, rfl, .inr (.inr (.inl ⟨HK.out, HFT.out, HG.out, rfl⟩)), HB3.out⟩
    | true =>
      have HG := hid hrg
      have d1 := HX3.out.c 1; have d2 := HX3.out.c 2; have d3 := HX3.out.c 3
      clear hrg
      go_wp2_with fail
      refine (HI.out w3 HB3.out).mono ?_
      rintro e w4 ⟨r, hr, rfl, hb4⟩
      have HB4 := hid (HB3.out.trans (hb4.mono HB3.out.size)); have HRR := hid hr
      clear hb4 hr d1 d2 d3
      cases hc : (cmpN (x, l) r == 0) with
      | true =>
        have HCC := hid hc
        clear hc
        go_wp2
        go_ret
        exact ⟨0, rfl, .inr (.inr (.inr ⟨HK.out, HFT.out, HG.out, r, HRR.out, by rw [HCC.out]; rfl⟩)), HB4.out⟩
      | false =>
        have HCC := hid hc
        clear hc
        go_wp2
        go_ret
        exact ⟨72, rfl, .inr (.inr (.inr ⟨HK.out, HFT.out, HG.out, r, HRR.out, by rw [HCC.out]; rfl⟩)), HB4.out⟩
  · have HFT := hid hfit
    rw [decide_eq_false hfit]
    clear hfit
    go_wp2
    go_ret
    exact ⟨73, rfl, .inr (.inl ⟨HK.out, (by have := HFT.out; omega), rfl⟩), HB2.out⟩
set_option maxRecDepth 100000 in
set_option maxHeartbeats 8000000 in
theorem pcheck_any (S : Option Addr) (n cap : Nat) (sg : List Sym) (p : Option Addr) (bcap : Nat) (bs : List Bn) (w : World) (hS : SigAt w S n sg) (hB : BindsAt w p bs.length bs) (hn : bs.length ≤ 1048576) (hnd : ∀ b ∈ bs, nodesF b.2.2 ≤ 1048576) :
    Calls Tryz.prog 7 #[.slice S n cap, .slice p bs.length bcap] w fun e w' => ∃ (ec : Int) (q : Nat), e = .returned (.tuple #[.int .i64 ec, .int .i64 q]) ∧ (checkE sg = 0 → chkB sg bs none 0 = (ec, q)) ∧ Below w.heap.size w w' := by
  have HB := hid hB; have HS := hid hS; have HND := hid hnd
  obtain ⟨R, hR⟩ : ∃ R, chkB sg bs none 0 = R := ⟨_, rfl⟩
  rw [hR]
  have HR := hid hR
  clear hB hS hnd hR
  go_enter Tryz.func7, Tryz.ntmps7
  go_wp2_with fail
  go_loopw [6, 12] (fun av iv wr => ∃ (j : Nat) (ah : ByteArray), j ≤ bs.length ∧ av = .string ah ∧ iv = .int .i64 j ∧ (prevB bs j = some ah ∨ prevB bs j = none ∧ ah = ⟨#[]⟩) ∧ (checkE sg = 0 → chkB sg (bs.drop j) (prevB bs j) j = R) ∧ Below w.heap.size w wr) (fun _ iv _ => bs.length - (intOf iv).toNat)
  case atStart => exact ⟨0, ⟨#[]⟩, Nat.zero_le _, rfl, rfl, .inr ⟨rfl, rfl⟩, fun _ => HR.out, Below.refl _ _⟩
  case round =>
    obtain ⟨j, ah, hj, rfl, rfl, hp, hc, hlow⟩ := hrel
    have HW := hid hlow; have HP := hid hp; have HC := hid hc
    clear hlow hp hc
    by_cases hlt : j < bs.length
    · obtain ⟨b1, o1, a1, c1, rfl, hbd⟩ := (HB.out.below HW.out).cells j hlt
      have hfit := HB.out.fits bs[j] (List.getElem_mem hlt)
      have hnod := HND.out bs[j] (List.getElem_mem hlt)
      have hstep := fun h0 : checkE sg = 0 => (chkB_step (sg := sg) hlt).symm.trans (HC.out h0)
      have hpn : prevB bs (j + 1) = some bs[j].1 := by simp [prevB, hlt]
      obtain ⟨⟨vn, ⟨x, l⟩⟩, hy⟩ : ∃ y, bs[j] = y := ⟨_, rfl⟩
      rw [hy] at hbd hfit hnod hstep hpn
      have p0 := hbd.var; have p1 := hbd.name; have p2 := hbd.sym; have p3 := hbd.list
      dsimp only at p0 p1 p2 p3 hfit hnod hpn
      have bx := alloc_below0 wr (.cells #[.string vn, .string x.1, .int .i64 x.2, .slice a1 (lenF l) c1] 43)
      have HCK := hid (checkBind_any S n cap sg ah vn x l a1 c1 (wr.alloc (.cells #[.string vn, .string x.1, .int .i64 x.2, .slice a1 (lenF l) c1] 43)) ((HS.out.below HW.out).below bx) (hbd.tm.below bx) hfit hnod)
      have X1 : Box (wr.alloc (.cells #[.string vn, .string x.1, .int .i64 x.2, .slice a1 (lenF l) c1] 43)) wr.heap.size 43 #[.string vn, .string x.1, .int .i64 x.2, .slice a1 (lenF l) c1] := World.alloc_heap_new wr _
      have HX1 := hid X1
      have HW1 := hid (HW.out.trans (bx.mono HW.out.size))
      have HST := hid hstep; have HPN := hid hpn
      have y0 := X1.c 0; have y1 := X1.c 1; have y2 := X1.c 2; have y3 := X1.c 3
      clear hbd hy hstep hpn bx X1 HC
      go_wp2_with fail
      refine HCK.out.mono ?_
      rintro e w2 ⟨ec, rfl, hr, hb2⟩
      have HW2 := hid (HW1.out.trans (hb2.mono HW1.out.size)); have X2 := HX1.out.below hb2
      have HE := hid fun h0 : checkE sg = 0 => ck_bd (prev := prevB bs j) h0 HP.out hr
      clear y0 y1 y2 y3 p0 p1 p2 p3 hb2 hr HCK
      have y0 := X2.c 0
      clear X2
      by_cases h0 : ec = 0
      · subst h0
        go_wp2_with fail
        go_roundw
        case rel =>
          refine ⟨j + 1, vn, by omega, rfl, by go_num, .inl HPN.out, fun hs => ?_, HW2.out⟩
          have := HST.out hs
          rw [← HE.out hs, if_pos rfl] at this
          exact this
        case measure => simp [intOf]; omega
      · have hne : (ec != 0) = true := by simpa using h0
        go_wp2_with fail
        go_ret2
        refine ⟨ec, j, rfl, fun hs => ?_, HW2.out⟩
        have := HST.out hs
        rw [← HE.out hs, if_neg h0] at this
        exact this.symm
    · have e1 : j = bs.length := by omega
      go_wp2_with fail
      go_ret2
      refine ⟨0, 0, rfl, fun hs => ?_, HW.out⟩
      have := HC.out hs
      rw [e1, List.drop_length] at this
      exact this.symm
end Go.Proofs.YtgidgmgpgfonnaaGreat
