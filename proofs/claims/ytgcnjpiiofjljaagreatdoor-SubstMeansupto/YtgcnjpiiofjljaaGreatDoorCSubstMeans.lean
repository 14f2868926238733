/- For every signature, binds, names and number, of bulk at most 1048576 together, SubstMeans returns true: the new names that Rename gives stand for the old ones (put back, they make the same substitution), names that are kept stay, new ones are none of them, and the number behind is the document's; the conditions are the second form's bound and that the library's table holds what its initialiser lays (the card's tie). -/
import Derived.Test.YtgcnjpiiofjljaaGreatDoorPKind
import Derived.Test.YtgcnjpiiofjljaaGreatDoorRoF
import Derived.Test.YtgcnjpiiofjljaaGreatDoorKRoC
/- What the document's Is answers of binds. -/
namespace Go.Proofs.YtgcnjpiiofjljaaGreatDoor
open Go.RowKit Go.Deep

set_option maxRecDepth 100000 in
set_option maxHeartbeats 2000000 in
theorem ris_any (S : Option Addr) (n cap : Nat) (sg : List Sym) (p : Option Addr) (bcap : Nat) (bs : List Bn) (w : World) (hS : SigAt w S n sg) (hB : BindsAt w p bs.length bs) (hn : bs.length ≤ 1048576) (hnd : ∀ b ∈ bs, nodesF b.2.2 ≤ 1048576) :
    Calls Tryz.prog 10 #[.slice S n cap, .slice p bs.length bcap] w fun e w' => e = .returned (.bool (decide ((chkB sg bs none 0).1 = 0))) ∧ Below w.heap.size w w' := by
  have HC := hid (rchk_any S n cap sg p bcap bs w hS hB hn hnd)
  obtain ⟨⟨ev, iv⟩, hev⟩ : ∃ R, chkB sg bs none 0 = R := ⟨_, rfl⟩
  rw [hev] at HC ⊢
  clear hev hS hB
  go_enter Tryz.func10, Tryz.ntmps10
  go_wp2_with fail
  refine HC.out.mono ?_
  rintro e w1 ⟨rfl, hb1⟩
  have HL := hid hb1
  clear hb1 HC
  go_wp2_with fail
  go_ret
  exact ⟨rfl, HL.out⟩
end Go.Proofs.YtgcnjpiiofjljaaGreatDoor
/- The box of what a statement of layer 7 is asked about. -/
namespace Go.Proofs.YtgcnjpiiofjljaaGreatDoor
open Go.RowKit Go.Deep

/-- What was handed in, and its box. -/
structure InS (w : World) (cs : Array Value) (W : World) : Prop where
  low : Below w.heap.size w W
  box : Box W w.heap.size 30 cs
theorem InS.below {w W W' : World} {cs : Array Value} (h : InS w cs W) (hb : Below W.heap.size W W') : InS w cs W' := ⟨h.low.trans (hb.mono h.low.size), h.box.below hb⟩
theorem InS.new (w : World) (cs : Array Value) : InS w cs (w.alloc (.cells cs 30)) := ⟨(Below.refl _ w).alloc (Nat.le_refl _) _, Box.new w 30 cs⟩
end Go.Proofs.YtgcnjpiiofjljaaGreatDoor
/- What both of the statements answers. -/
namespace Go.Proofs.YtgcnjpiiofjljaaGreatDoor
open Go.RowKit Go.Deep

set_option maxRecDepth 100000 in
set_option maxHeartbeats 4000000 in
theorem both_any (q : Sm) (w : World) (hq : SmAt w q) (hz : SmSz q) : Calls Tryz.prog 14 #[.agg q.cells] w fun e w' => e = .returned (.bool ((checkE q.sg == 0) && (decide ((chkB q.sg q.ls none 0).1 = 0) && decide ((chkB q.sg q.bs none 0).1 = 0)))) ∧ Below w.heap.size w w' := by
  obtain ⟨S, n, cap, sg, pa, ca, ls, pb, cb, bs, ⟨x, l⟩, a, c, pn, cn, ns, f⟩ := q
  have hz1 := hz.all
  have HQ := hid hq
  dsimp only at hz1
  have hln := totB_len ls
  have hlb := totB_len bs
  have hnd : ∀ b ∈ ls, nodesF b.2.2 ≤ 1048576 := fun b hb => by have := totB_mem hb; omega
  have hnd2 : ∀ b ∈ bs, nodesF b.2.2 ≤ 1048576 := fun b hb => by have := totB_mem hb; omega
  have I0 : Hid (InS w (Sm.cells ⟨S, n, cap, sg, pa, ca, ls, pb, cb, bs, (x, l), a, c, pn, cn, ns, f⟩) (w.alloc (.cells (Sm.cells ⟨S, n, cap, sg, pa, ca, ls, pb, cb, bs, (x, l), a, c, pn, cn, ns, f⟩) 30))) := hid (InS.new w _)
  have HSR := hid fun (W : World) (hW : Below w.heap.size w W) => sright_any S n cap sg W (HQ.out.below hW).sig
  have HIA := hid fun (W : World) (hW : Below w.heap.size w W) => ris_any S n cap sg pa ca ls W (HQ.out.below hW).sig (HQ.out.below hW).ls (by omega) hnd
  have HIB := hid fun (W : World) (hW : Below w.heap.size w W) => ris_any S n cap sg pb cb bs W (HQ.out.below hW).sig (HQ.out.below hW).bs (by omega) hnd2
  unfold Sm.cells at I0 ⊢
  dsimp only at I0 ⊢
  obtain ⟨v1, hv1⟩ : ∃ v, (checkE sg == 0) = v := ⟨_, rfl⟩
  obtain ⟨v2, hv2⟩ : ∃ v, decide ((chkB sg ls none 0).1 = 0) = v := ⟨_, rfl⟩
  obtain ⟨v3, hv3⟩ : ∃ v, decide ((chkB sg bs none 0).1 = 0) = v := ⟨_, rfl⟩
  rw [hv1] at HSR
  rw [hv2] at HIA
  rw [hv3] at HIB
  rw [hv1, hv2, hv3]
  clear hz hq hnd hnd2 hz1 hln hlb HQ hv1 hv2 hv3
  have i0 := I0.out.box.c 0
  go_enter Tryz.func14, Tryz.ntmps14
  go_wp2_with fail
  refine (HSR.out _ I0.out.low).mono ?_
  rintro e w1 ⟨rfl, hb1⟩
  have I1 := hid (I0.out.below hb1)
  clear I0 hb1 i0 HSR
  cases v1 with
  | false =>
    go_wp2
    go_ret
    exact ⟨rfl, I1.out.low⟩
  | true =>
    have i0 := I1.out.box.c 0; have i1 := I1.out.box.c 1
    go_wp2_with fail
    refine (HIA.out _ I1.out.low).mono ?_
    rintro e w2 ⟨rfl, hb2⟩
    have I2 := hid (I1.out.below hb2)
    clear I1 hb2 i0 i1 HIA
    have i0 := I2.out.box.c 0; have i2 := I2.out.box.c 2
    go_wp2_with fail
    refine (HIB.out _ I2.out.low).mono ?_
    rintro e w3 ⟨rfl, hb3⟩
    have I3 := hid (I2.out.below hb3)
    clear I2 hb3 i0 i2 HIB
    cases v2 with
    | false =>
      go_wp2
      go_ret
      exact ⟨rfl, I3.out.low⟩
    | true =>
      go_wp2
      go_ret
      exact ⟨by cases v3 <;> rfl, I3.out.low⟩
end Go.Proofs.YtgcnjpiiofjljaaGreatDoor
/- The walk of SubstMeans. -/
namespace Go.Proofs.YtgcnjpiiofjljaaGreatDoor
open Go.RowKit Go.Deep

def bkI (p : ByteArray × ByteArray) : Bk := (p.2, ⟨(p.1, 0), .nil, none, 0⟩)
theorem pin_leaf {bs : List Bn} (h : ∀ s, (getN bs s).2 = .nil) : ∀ F : Fo, nodesF (pinF bs F) ≤ nodesF F
  | .nil => Nat.le_refl _
  | .node B O x a r => by
    have h1 := pin_leaf h a
    have h2 := pin_leaf h r
    unfold pinF
    split
    · simp only [nodesF]; omega
    · simp only [nodesF, h]; omega
theorem pin_leafN {bs : List Bn} (h : ∀ s, (getN bs s).2 = .nil) (x : ByteArray × Int) (F : Fo) : nodesF (pinN bs x F).2 ≤ nodesF F := by
  have h1 := pin_leaf h F
  unfold pinN
  split
  · exact h1
  · rw [h]; simp only [nodesF]; omega
theorem getI (l : List (ByteArray × ByteArray)) (s : ByteArray) : (getN (l.map gI) s).2 = .nil := by
  obtain ⟨y, e, _⟩ := getN_leaf (l.map gI) (fun b hb => by obtain ⟨p, _, rfl⟩ := List.mem_map.1 hb; exact ⟨rfl, rfl⟩) s
  rw [e]
set_option maxRecDepth 100000 in
set_option maxHeartbeats 16000000 in
theorem substMeans_walk (q : Sm) (w : World) (hq : SmAt w q) (hz : SmSz q) (hf0 : -9223372036854775808 ≤ q.f) (hf1 : q.f ≤ 9223372036854775807) (hstd : Std w) (hw0 : 0 < w.heap.size) : Calls Tryz.prog 4 #[.agg q.cells] w fun e w' => e = .returned (.bool true) ∧ Below w.heap.size w w' := by
  have HBO := hid fun (W : World) (hW : Below w.heap.size w W) => both_any q W (hq.below hW) hz
  obtain ⟨S, n, cap, sg, pa, ca, ls, pb, cb, bs, ⟨x, l⟩, a, c, pn, cn, ns, f⟩ := q
  have hz1 := hz.all
  have HQ := hid hq
  dsimp only at hz1 hf0 hf1
  have hln := totB_len ls
  have hot := occB_tot ls
  have I0 : Hid (InS w (Sm.cells ⟨S, n, cap, sg, pa, ca, ls, pb, cb, bs, (x, l), a, c, pn, cn, ns, f⟩) (w.alloc (.cells (Sm.cells ⟨S, n, cap, sg, pa, ca, ls, pb, cb, bs, (x, l), a, c, pn, cn, ns, f⟩) 30))) := hid (InS.new w _)
  have HSG := hid fun (W : World) (hW : Below w.heap.size w W) => (HQ.out.below hW).sig
  have HLS := hid fun (W : World) (hW : Below w.heap.size w W) => (HQ.out.below hW).ls
  have HNS := hid fun (W : World) (hW : Below w.heap.size w W) => (HQ.out.below hW).ns
  dsimp only at HSG HLS HNS
  unfold Sm.cells at I0 HBO ⊢
  dsimp only at I0 HBO ⊢
  have HST := hid hstd
  have HFO := hid (occB_fits HQ.out.ls)
  have HFI := hid HQ.out.ls.fits
  dsimp only at HFO HFI
  have HL : Hid (ls.length ≤ 1048576) := hid (by omega)
  have HZ : Hid ((occB ls).length ≤ 1048576 ∧ True ∧ ns.length ≤ 1048576 ∧ ∀ b ∈ ls, nodesF b.2.2 ≤ 1048576) := hid ⟨by omega, trivial, by omega, fun b hb => by have := totB_mem hb; omega⟩
  obtain ⟨bv, hbv⟩ : ∃ bv, ((checkE sg == 0) && (decide ((chkB sg ls none 0).1 = 0) && decide ((chkB sg bs none 0).1 = 0))) = bv := ⟨_, rfl⟩
  rw [hbv] at HBO
  have HBV := hid hbv
  clear hz hq hz1 hln hot HQ hstd hbv
  go_enter Tryz.func4, Tryz.ntmps4
  go_wp2_with fail
  refine (shead_any _).mono ?_
  rintro e w1 ⟨rfl, hb1⟩
  have I1 := hid (I0.out.below hb1)
  clear I0 hb1
  have i0 := I1.out.box.c 0; have i1 := I1.out.box.c 1; have i2 := I1.out.box.c 2; have i3 := I1.out.box.c 3; have i4 := I1.out.box.c 4; have i5 := I1.out.box.c 5; have i6 := I1.out.box.c 6; have i7 := I1.out.box.c 7
  go_wp2_with fail
  refine (HBO.out w1 I1.out.low).mono ?_
  rintro e w2 ⟨rfl, hb2⟩
  have I2 := hid (I1.out.below hb2)
  clear hb2 i0 i1 i2 i3 i4 i5 i6 i7 HBO I1
  cases bv with
  | false =>
    go_wp2
    go_ret
    exact ⟨rfl, I2.out.low⟩
  | true =>
  have hbb := HBV.out
  simp only [Bool.and_eq_true, decide_eq_true_eq, beq_iff_eq] at hbb
  have OK := hid (sg_ok hbb.1)
  have SA := hid (chk_ok ls none 0 hbb.2.1).1.rights
  clear hbb HBV
  have i0 := I2.out.box.c 0; have i1 := I2.out.box.c 1; have i6 := I2.out.box.c 6; have i7 := I2.out.box.c 7
  have hft : -1000 ≤ f.tmod 1000 ∧ f.tmod 1000 ≤ 1000 := by
    rcases Int.le_total 0 f with h | h
    · rw [Int.tmod_eq_emod_of_nonneg h]; omega
    · have e : f.tmod 1000 = -((-f).tmod 1000) := by rw [Int.neg_tmod, Int.neg_neg]
      rw [e, Int.tmod_eq_emod_of_nonneg (by omega)]; omega
  go_upto_region 6 with fail
  obtain ⟨f1, hf2⟩ : ∃ f1, f.tmod 1000 = f1 := ⟨_, rfl⟩
  rw [hf2] at hft ⊢
  clear hf2
  have hst := HST.out
  have HREN := hid fun (W : World) (hW : Below w.heap.size w W) => prename_any S n cap sg pa ca ls pn cn ns f1 W nmB_inj (hst.below hW hw0) (Nat.lt_of_lt_of_le hw0 hW.size) (HSG.out W hW) (HLS.out W hW) (HNS.out W hW) (by omega) (by omega) HZ.out.2.2.1 (by have := HZ.out.1; omega) HL.out HZ.out.2.2.2
  have HNAM := hid fun (W : World) (hW : Below w.heap.size w W) => rnames2_any pa ca ls pn cn ns f1 W nmB_inj (hst.below hW hw0) (Nat.lt_of_lt_of_le hw0 hW.size) (HLS.out W hW) (HNS.out W hW) (by omega) (by omega) HZ.out.2.2.1 HZ.out.1 HZ.out.2.2.2 (fun b hb => occ_namesT (SA.out b hb)) HFO.out
  have HBACK := hid fun (b : Bn) (hb : b ∈ ls) => means_back (keep := ns) (f := fst1 f1) OK.out hb (SA.out b hb) _ rfl
  have HSAME := hid fun (ks : List Bk) (hl : ks.length = ls.length) => ren_same (keep := ns) (f := f1) (ks := ks) OK.out SA.out hl
  have hGl := (foldD_len ns ((occB ls).foldl onceN []) ([], fst1 f1)).1
  have hol := (once_fold (occB ls) [] (by simp) HFO.out).2
  have hgv := Given.fold nmB_inj (occB ls) (Given.start ns nmB (fst1 f1))
  have hkeys := keys_fold ns nmB ((occB ls).foldl onceN []) ([], fst1 f1)
  have hnb := (foldD_len ns ((occB ls).foldl onceN []) ([], fst1 f1)).2
  rw [names_same] at HREN HBACK HSAME hgv
  obtain ⟨ST, hST⟩ : ∃ ST, ((occB ls).foldl onceN []).foldl (nameD ns nmB) ([], fst1 f1) = ST := ⟨_, rfl⟩
  rw [hST] at HREN HNAM HBACK HSAME hGl hgv hkeys hnb
  have hG1 : ST.1.length ≤ 1048576 := by simp only [List.length_nil] at hGl hol; have := HZ.out.1; omega
  have HOLD : Hid (∀ p ∈ ST.1, p.1.size ≤ maxLen) := hid fun p hp => by
    have h1 : p.1 ∈ ST.1.map (·.1) := List.mem_map.2 ⟨p, hp, rfl⟩
    rw [hkeys, List.map_nil, List.nil_append] at h1
    exact (once_fold (occB ls) [] (by simp) HFO.out).1 _ (List.mem_filter.1 h1).1
  have hfs : fst1 f1 ≤ 1000 := by unfold fst1; omega
  have hmb : ((occB ls).foldl onceN []).length * (ns.length + 1) ≤ 1048576 * 1048577 := Nat.mul_le_mul (by simp only [List.length_nil] at hol; have := HZ.out.1; omega) (by have := HZ.out.2.2.1; omega)
  have HNEW : Hid (∀ p ∈ ST.1, p.2.size ≤ maxLen) := hid fun p hp => by
    obtain ⟨js, ej, _, hj⟩ := hgv.num
    have h1 : p.2 ∈ ST.1.map (·.2) := List.mem_map.2 ⟨p, hp, rfl⟩
    rw [ej] at h1
    obtain ⟨j, hjm, hje⟩ := List.mem_map.1 h1
    rw [← hje]
    have := (hj j hjm).2.1
    simp only at hnb
    exact nm_size j (by omega)
  clear hGl hol hgv hkeys hnb hmb hfs hST hst
  have i0 := I2.out.box.c 0; have i1 := I2.out.box.c 1; have i6 := I2.out.box.c 6
  go_wp2_with fail
  refine (HREN.out w2 I2.out.low).mono ?_
  rintro e w3 ⟨g3, ks, rfl, hkl, hdn, hsep, hb3⟩
  have I3 := hid (I2.out.below hb3)
  have hrs := HSAME.out ks hkl hdn
  have S3 := hid hsep; have DN := hid hdn; have KL := hid hkl; have HRS := hid hrs
  clear hb3 hsep hdn hkl hrs i0 i1 i6 i7 HREN HSAME I2
  have i1 := I3.out.box.c 1; have i6 := I3.out.box.c 6
  go_wp2_with fail
  refine (HNAM.out w3 I3.out.low).mono ?_
  rintro e w4 ⟨vn, rfl, hsn, hb4⟩
  have I4 := hid (I3.out.below hb4)
  have S4 := hid (S3.out.below hb4); have SN := hid hsn
  clear hb4 hsn i1 i6 HNAM I3 S3
  obtain ⟨pg, cg, hvg⟩ : ∃ pg cg, vn = .slice pg ST.1.length cg := by
    rcases SN.out.slice with ⟨h1, h2⟩ | ⟨g, cap, h1⟩
    · have h3 := List.map_eq_nil_iff.1 h2
      rw [h3]; exact ⟨none, 0, h1⟩
    · rw [List.length_map] at h1
      exact ⟨_, cap, h1⟩
  subst hvg
  have HGB : Hid (BindsAt w4 pg ST.1.length (ST.1.map gB)) := hid (by
    have h := SN.out
    have e : (ST.1.map bkG).length = ST.1.length := List.length_map _
    rw [← e] at h
    have h2 := h.binds (fun k hk => by obtain ⟨p, hp, rfl⟩ := List.mem_map.1 hk; exact HOLD.out p hp)
    rw [List.map_map, show bkBn ∘ bkG = gB from rfl, e] at h2
    exact h2)
  obtain ⟨C, hC⟩ : ∃ C, ls.map (renD sg (ST.1.map gB)) = C := ⟨_, rfl⟩
  have hCl : C.length = ls.length := by rw [← hC, List.length_map]
  have HCL := hid hCl
  have HCI : Hid (∀ i (h : i < ls.length), ∃ h2 : i < C.length, C[i].1 = ls[i].1 ∧ canonT (sgOf sg) (pinN (ST.1.map gI) C[i].2.1 C[i].2.2) = canonT (sgOf sg) ls[i].2 ∧ nodesF C[i].2.2 ≤ 1048576) := hid fun i h => by
    have h2 : i < C.length := by omega
    refine ⟨h2, ?_⟩
    have hci : C[i] = renD sg (ST.1.map gB) ls[i] := by simp [← hC]
    have hm := List.getElem_mem h
    have hki : i < ks.length := by rw [KL.out]; exact h
    have hkc : bkBn ks[i] = C[i] := by
      have := HRS.out
      rw [hC] at this
      simp [← this]
    refine ⟨by rw [hci]; rfl, by rw [hci]; exact HBACK.out _ hm, ?_⟩
    have h3 := (DN.out i h hki).2.1
    rw [← hkc]
    have h4 := putG_nodesN ST.1 ls[i].2.1 ls[i].2.2
    have h5 := HZ.out.2.2.2 _ hm
    have h6 : sizeT ks[i].2.tn = nodesF (bkBn ks[i]).2.2 + 1 := rfl
    have h7 : sizeT (putN (lkG ST.1) ls[i].2.1 ls[i].2.2) = nodesF (putN (lkG ST.1) ls[i].2.1 ls[i].2.2).2 + 1 := rfl
    omega
  have HRB : Hid (BindsAt w4 (some ⟨g3, 0, none⟩) ls.length C) := hid (by
    have h := S4.out
    rw [← KL.out] at h
    have h2 := h.binds (fun k hk => by
      have h1 : bkBn k ∈ ks.map bkBn := List.mem_map_of_mem hk
      rw [HRS.out] at h1
      obtain ⟨b, hb, he⟩ := List.mem_map.1 h1
      have h3 : k.1 = b.1 := (congrArg Prod.fst he).symm
      rw [h3]; exact HFI.out b hb)
    rw [HRS.out, hC, KL.out] at h2
    exact h2)
  clear hC hCl S4 SN DN KL HRS HBACK
  obtain ⟨G, m⟩ := ST
  dsimp only at HGB HCI hG1 HOLD HNEW ⊢
  have HLW : Hid (∀ W, Below w4.heap.size w4 W → Below w.heap.size w W) := hid fun W hW => I4.out.low.trans (hW.mono I4.out.low.size)
  have i1 := I4.out.box.c 1
  have hll : ls.length ≤ 1048576 := HL.out
  go_wp2_with fail
  clear i1
  go_loopw [10] (fun iv wr => ∃ i : Nat, i ≤ ls.length ∧ iv = .int .i64 i ∧ Below w4.heap.size w4 wr) (fun iv _ => ls.length - (intOf iv).toNat)
  case atStart => exact ⟨0, Nat.zero_le _, rfl, Below.refl _ _⟩
  case round =>
    obtain ⟨i, hi, rfl, hlow⟩ := hrel
    have HLO := hid hlow
    clear hlow
    by_cases hlt : i < ls.length
    · obtain ⟨U, rfl⟩ : ∃ U, U = wr := ⟨_, rfl⟩
      go_upto_region 14 with fail
      go_wp2_with fail
      go_loopw [11, 12] (fun bw kw wr => ∃ (k : Nat) (v : Value), v = bw ∧ k ≤ G.length ∧ kw = .int .i64 k ∧ SepB U.heap.size wr v ((G.take k).map bkI) ∧ Below U.heap.size U wr) (fun _ kw _ => G.length - (intOf kw).toNat)
      case atStart => exact ⟨0, _, rfl, Nat.zero_le _, rfl, SepB.nil _ _, Below.refl _ _⟩
      case round =>
        obtain ⟨k, v, rfl, hk, rfl, hsb, hbu⟩ := hrel
        by_cases hlk : k < G.length
        · have hng : k < (G.map gB).length := by rw [List.length_map]; exact hlk
          obtain ⟨bb, oo, a1, c1, rfl, bd0⟩ := HGB.out.cells k hng
          have hmem := List.getElem_mem hlk
          have htk : G.take (k + 1) = G.take k ++ [G[k]] := List.take_succ_eq_append_getElem hlk
          have hgk : (G.map gB)[k] = gB G[k] := List.getElem_map _
          obtain ⟨⟨od, nw⟩, hp⟩ : ∃ p, G[k] = p := ⟨_, rfl⟩
          rw [hp] at hmem htk hgk
          rw [hgk] at bd0
          have bd := bd0.below (HLO.out.trans (hbu.mono HLO.out.size))
          have p0 := bd.var; have p1 := bd.name
          dsimp only [gB] at p0 p1
          have hol := HOLD.out _ hmem
          have hkl : ((G.take k).map bkI).length = k := by rw [List.length_map, List.length_take]; omega
          have HSB := hid hsb; have HBU := hid hbu; have HTK := hid htk; have HKL := hid hkl
          have bz : Below wr.heap.size wr (wr.drew.alloc (.cells #[.string nw, .string od, .int .i64 0, .slice none 0 0] 42)) := ((Below.refl _ wr).drew).trans (alloc_below0 wr.drew _)
          have HBZ := hid bz
          have HRO : Hid ((wr.drew.alloc (.cells #[.string nw, .string od, .int .i64 0, .slice none 0 0] 42)).ownsRow U.heap.size 42 4 v k (bkAll ((G.take k).map bkI))) := hid (by have h := owns_below hsb.row bz; rw [hkl] at h; exact h)
          have HNB := hid (World.news_of_block (heap_alloc_new wr.drew (.cells #[.string nw, .string od, .int .i64 0, .slice none 0 0] 42)))
          have hus := hbu.size
          obtain ⟨i0, hq0, hz0, hz1, hz2⟩ := info_parts Tryz.info42
          have hmax : maxLen = 9223372036854775807 := rfl
          clear bd bd0 hgk hmem htk hsb hbu hp bz hkl hng
          go_upto_region 17 with fail
          go_region_law
            ((first
              | (refine step_append_lies _ (by rfl) (.tmp 70) (.tmp 84) 24 (by rfl) U.heap.size 42 i0 _ 4 64 Tryz.underlying24 hq0 hz0 hz1 hz2 rfl (by decide) v k (bkAll ((G.take k).map bkI)) (by rfl) HRO.out ⟨wr.heap.size, 0, none⟩ 1 1 (bkCells (bkI (od, nw))) (by rfl) rfl HNB.out (bk_one _) (by decide) (by omega) (by omega) (Nat.le_trans hus HBZ.out.size) _ rfl ?_; intro g5 cap5 w5 hown5 hgrow5 hat5 hlt5; have HK5 := hid (HSB.out.grow (v' := .slice (some ⟨g5, 0, none⟩) (k + 1) cap5) (y := bkI (od, nw)) HBZ.out (sep_leaf _ _ od hol) hus hgrow5 (by rcases hat5 with h | h; exact .inl h.symm; exact .inr (congrArg some h)) (by rw [bkAll_snoc, List.length_append, HKL.out]; exact hown5)); have HG5 := hid ((HBU.out.trans (HBZ.out.mono HBU.out.size)).grown hgrow5 (Nat.le_trans hus HBZ.out.size) (fun q e => (owns_cells HSB.out.row e).1)); clear hown5 hgrow5 hat5)
              | fail))
          all_goals
            clear HRO HNB HBZ HSB HBU p0 p1
            go_wp2_with fail
            go_roundw
            case rel =>
              refine ⟨k + 1, _, rfl, by omega, by go_num, ?_, HG5.out⟩
              rw [HTK.out, List.map_append]
              exact HK5.out
            case measure => simp [intOf]; omega
        · obtain rfl : k = G.length := by omega
          have ht : G.take G.length = G := List.take_of_length_le (by omega)
          rw [ht] at hsb
          obtain ⟨GI, hGI⟩ : ∃ GI, G.map gI = GI := ⟨_, rfl⟩
          have hgl : GI.length = G.length := by rw [← hGI, List.length_map]
          have hbk : (G.map bkI).map bkBn = GI := by rw [List.map_map, ← hGI]; rfl
          obtain ⟨pk, ck, hv⟩ : ∃ pk ck, v = .slice pk GI.length ck := by
            rw [hgl]
            rcases hsb.slice with ⟨h1, h2⟩ | ⟨g, cap, h1⟩
            · have h3 := List.map_eq_nil_iff.1 h2
              rw [h3]; exact ⟨none, 0, h1⟩
            · rw [List.length_map] at h1
              exact ⟨_, cap, h1⟩
          subst hv
          have HKB : Hid (BindsAt wr pk GI.length GI) := hid (by
            have e : (G.map bkI).length = GI.length := by rw [List.length_map, hgl]
            have h := hsb
            rw [← e] at h
            have h2 := h.binds (fun q hq => by obtain ⟨p, hp, rfl⟩ := List.mem_map.1 hq; exact HNEW.out p hp)
            rw [hbk, e] at h2
            exact h2)
          have hlf : ∀ s, (getN GI s).2 = .nil := fun s => by rw [← hGI]; exact getI G s
          obtain ⟨hiC, e1, e2, e3⟩ := HCI.out i hlt
          rw [hGI] at e2
          have hWB := HLO.out.trans (hbu.mono HLO.out.size)
          obtain ⟨b1, o1, ar, cr, hpr, br0⟩ := HRB.out.cells i hiC
          cases hpr
          obtain ⟨⟨rn, ⟨rx, rl⟩⟩, hci⟩ : ∃ b, C[i] = b := ⟨_, rfl⟩
          rw [hci] at br0 e1 e2 e3
          have br := br0.below hWB
          obtain ⟨b2, o2, aa, ca2, rfl, ba⟩ := (HLS.out wr (HLW.out wr hWB)).cells i hlt
          have hnla := HZ.out.2.2.2 _ (List.getElem_mem hlt)
          obtain ⟨⟨an, ⟨ax, al⟩⟩, hai⟩ : ∃ b, ls[i] = b := ⟨_, rfl⟩
          rw [hai] at ba e1 e2 hnla
          dsimp only at e1 e2 e3 hnla
          subst e1
          have r0 := br.var; have r1 := br.name; have r2 := br.sym; have r3 := br.list
          have s0 := ba.var; have s1 := ba.name; have s2 := ba.sym; have s3 := ba.list
          dsimp only at r0 r1 r2 r3 s0 s1 s2 s3
          rw [Nat.zero_add] at r0 r1 r2 r3
          have HPT := hid (pin_all GI (by omega) 1048576 rx rl ar cr pk ck wr e3 br.tm HKB.out)
          have hq := Nat.le_trans (pin_leafN hlf rx rl) e3
          obtain ⟨t, ht2⟩ : ∃ t, pinN GI rx rl = t := ⟨_, rfl⟩
          rw [ht2] at HPT hq e2
          have HEC := hid e2; have HTA := hid ba.tm; have HWB := hid hWB
          have HR0 := hid r0; have HS0 := hid (And.intro s0 (And.intro s1 (And.intro s2 s3)))
          clear ht2 hsb hbu ht hbk hci hai br br0 ba hWB e2 hlf HKB hGI hgl s0 s1 s2 s3 r0
          go_upto_region 19 with (go_at_call 16; refine HPT.out.mono ?_; rintro e w5 ⟨a', c', rfl, hT5, hb5⟩; have HT5 := hid hT5.own.tm; have HB5 := hid hb5; clear hT5 hb5)
          have bx := alloc_below0 w5 (.cells #[.string t.1.1, .int .i64 t.1.2, .slice a' (lenF t.2) c'] 27)
          have HX := hid (TBox.new w5 t.1 a' (lenF t.2) c')
          have HB6 := hid (HB5.out.trans (bx.mono HB5.out.size))
          have HT6 := hid (HT5.out.below bx)
          obtain ⟨V, hV⟩ : ∃ V, w5.alloc (.cells #[.string t.1.1, .int .i64 t.1.2, .slice a' (lenF t.2) c'] 27) = V := ⟨_, rfl⟩
          obtain ⟨nb, hnb⟩ : ∃ nb, w5.heap.size = nb := ⟨_, rfl⟩
          rw [hV] at HX HB6 HT6 ⊢
          rw [hnb] at HX ⊢
          have HWV := hid (HWB.out.trans (HB6.out.mono HWB.out.size))
          have hcan : (cmpN (canonT (sgOf sg) t) (canonT (sgOf sg) (ax, al)) == 0) = true := by
            rw [HEC.out]
            have := cmpN_anti (canonT (sgOf sg) (ax, al)) (canonT (sgOf sg) (ax, al))
            simp only [beq_iff_eq]; omega
          have HEQ := hid fun (W : World) (hW : Below V.heap.size V W) => equal_any S n cap sg t (ax, al) a' aa c' ca2 W (HSG.out W (HLW.out W (HWV.out.trans (hW.mono HWV.out.size)))) (HT6.out.below hW) (HTA.out.below (HB6.out.trans (hW.mono HB6.out.size))) hq hnla
          rw [hcan] at HEQ
          have I5 := hid (I4.out.below HWV.out)
          have j0 := later_cell (v := .slice S n cap) (I5.out.box.c 0)
          have j1 := later_cell (v := .slice (some ⟨b2, o2, none⟩) ls.length ca) (I5.out.box.c 1)
          have x0 := later_cell HX.out.c0; have x1 := later_cell HX.out.c1; have x2 := later_cell HX.out.c2
          have t0 := later_cell (bd_cell HB6.out _ _ HR0.out)
          have v0 := later_cell (bd_cell HB6.out _ _ HS0.out.1); have v1 := later_cell (bd_cell HB6.out _ _ HS0.out.2.1); have v2 := later_cell (bd_cell HB6.out _ _ HS0.out.2.2.1); have v3 := later_cell (bd_cell HB6.out _ _ HS0.out.2.2.2)
          have hne := later_some V
          clear r1 r2 r3 HPT bx hcan HT5 HB5 hV hnb HEC
          go_wp2_with fail
          refine wp_region_later (by kernel_rfl) (by kernel_rfl) ?_
          repeat (go_big_quiet_step ((go_at_call 17; refine calls_later (HEQ.out _ ?_); exact Later.below _)))
          refine wpQuiet_nil ?_
          intro _ hw'
          obtain ⟨b9, hw''⟩ := hw'
          subst hw''
          have HW9 := hid (HWV.out.trans (b9.below.mono HWV.out.size))
          clear j0 j1 x0 x1 x2 t0 v0 v1 v2 v3 hne HEQ
          go_wp2_with fail
          go_roundw
          case rel => exact ⟨i + 1, by omega, by go_num, HW9.out⟩
          case measure => simp [intOf]; omega
    · obtain rfl : i = ls.length := by omega
      have HEND := hid (HLW.out wr HLO.out)
      go_wp2
      go_ret
      exact ⟨rfl, HEND.out⟩
end Go.Proofs.YtgcnjpiiofjljaaGreatDoor
namespace Go.Proofs.YtgcnjpiiofjljaaGreatDoor
open Go.ChangeShapes Go.WideShapes Go.ChangeAt Go.RowKit Go.Deep Go.WideMaps

set_option maxRecDepth 100000 in
theorem substMeans_contract (H : Type) (enc : TypeId × Value → H) (W : World) (base : Nat) (args : Array Value) (ds gs : List (DataW H)) (before : List MemPlace)
    (hval : ∀ (j : Nat) t v, Tryz.f4.params[j]? = some t → args[j]? = some v → Value.okWide Tryz.prog W .any base t v)
    (hW : DataW.Whole enc Tryz.prog Tryz.f4.params.toList Rows.substMeansSpec.vars false W args.toList ds gs before) (hL : laidMetH Tryz.prog Rows.substRenamesRow.laid W) (hk : Rows.uptoSmall H (ds ++ gs) = true) :
    Calls Tryz.prog 4 args W fun e W' => ∃ v, e = .returned v ∧ Rows.substMeansSpec.post enc Tryz.prog Tryz.f4 false true false false W args v W' := by
  have hW' := hW
  obtain ⟨p, q, hA0, hV, rfl, hfz, hnd⟩ := hW
  have hA : DataW.TrodAll enc Tryz.prog W 0 (fun _ => true) true Tryz.f4.params.toList args.toList ds p := hA0
  rw [Tryz.params4] at hA hval
  obtain ⟨v0, vs0, d0, ds0, p0, q0, hargs, rfl, rfl, h0, r0⟩ := trodAll_cons hA
  obtain ⟨rfl, rfl, rfl⟩ := trodAll_nil r0
  obtain rfl : args = #[v0] := by cases args; simp_all
  obtain ⟨rfl, rfl⟩ := trodVars_none hV
  have lt0 : ∀ x ∈ p0, x.block < W.heap.size := by obtain ⟨m, hm⟩ := h0; exact DataW.trod_lt m _ _ _ hm
  have hbulk : Rows.uptoBulk d0 ≤ 1048576 := by
    have h : Rows.uptoBulkAll ([d0] ++ []) ≤ 1048576 := of_decide_eq_true hk
    simp only [List.append_nil, Rows.uptoBulkAll] at h
    omega
  obtain ⟨q, rfl, hT, hs, hf0, hf1⟩ := some_open3 (hval 0 30 v0 rfl rfl) h0 hbulk
  clear hA0
  refine (substMeans_walk q W hT hs hf0 hf1 (std_of hL) (std_pos hL)).mono fun e W' ⟨he, bel⟩ => ?_
  subst he
  exact ⟨_, rfl, _, _, _, [], _, [], hW', trodAll_mk1 (shut_bool Tryz.underlying4 _), (trodAll_cons_mk (Below.trod laidOut (by kernel_rfl) (of_decide_eq_true (by kernel_rfl)) h0 bel lt0) trodAll_mk0), rfl, bel.frame _, fun h => by cases h⟩

theorem substMeans_met (os : Os) : laidMet Tryz.prog Rows.substMeansUptoRow.laid (World.forCall (World.doorLaid Tryz.prog 400 os) (fun _ _ => 0) ⟨#[], #[.agg #[.slice none 0 0, .slice none 0 0, .slice none 0 0, .string .empty, .int .i64 0, .slice none 0 0, .slice none 0 0, .int .i64 0]], []⟩).memory :=
  laidMet_of_run' 8 (by kernel_rfl) (by kernel_rfl)
theorem substMeans_reads (os : Os) {H : Type} (enc : TypeId × Value → H) : ∃ places, DataW.whole enc Tryz.prog (World.forCall (World.doorLaid Tryz.prog 400 os) (fun _ _ => 0) ⟨#[], #[.agg #[.slice none 0 0, .slice none 0 0, .slice none 0 0, .string .empty, .int .i64 0, .slice none 0 0, .slice none 0 0, .int .i64 0]], []⟩).memory Tryz.f4.params.toList Rows.substMeansSpec.vars false (#[.agg #[.slice none 0 0, .slice none 0 0, .slice none 0 0, .string .empty, .int .i64 0, .slice none 0 0, .slice none 0 0, .int .i64 0]] : Array Value).toList 8 = some ([.agg [.nil, .nil, .nil, .agg [.lit (.string []), .lit (.int .i64 0), .nil], .nil, .lit (.int .i64 0)]], [], places) :=
  ⟨[], by kernel_rfl⟩
set_option maxRecDepth 100000 in
theorem substMeans_lifted (os : Os) (started : os.Started) (H : Type) (enc : TypeId × Value → H) (F : Stop.Interp) :
    ReturnsInHanded {} Tryz.checked os 4 .any ((Rows.OpenSpec.upto Rows.substMeansSpec).preRow enc Tryz.prog Tryz.f4 Rows.substMeansUptoRow.domain false Rows.substMeansUptoRow.laid) (((Rows.OpenSpec.upto Rows.substMeansSpec).at F).post enc Tryz.prog Tryz.f4 false true false false) := by
  obtain ⟨places, hx⟩ := substMeans_reads os enc
  refine returnsInHanded_of_row (C := Tryz.checked) (s := Rows.OpenSpec.upto Rows.substMeansSpec) own started (by kernel_rfl) Tryz.func4
    (witness_row_at (enc := enc) (C := Tryz.checked) false (World.doorLaid Tryz.prog 400 os) #[.agg #[.slice none 0 0, .slice none 0 0, .slice none 0 0, .string .empty, .int .i64 0, .slice none 0 0, .slice none 0 0, .int .i64 0]] rfl (by kernel_rfl) (by kernel_rfl) (by kernel_rfl)
      (OpenSpec.preRow_of_cond 8 hx (by kernel_rfl) (fun k hk => by cases hk; kernel_rfl) (by kernel_rfl) (substMeans_met os))) ?_
  intro W base args ds gs before hval hW _ hk _ hL _ _
  exact substMeans_contract H enc W base args ds gs before hval hW hL (hk _ rfl)
set_option maxRecDepth 100000 in
theorem substMeans_said : Rows.SubstMeansUptoSaid :=
  OpenClaim.holds_of_cond 4 Tryz.f4 rfl rfl rfl rfl rfl rfl rfl ⟨rfl, rfl, rfl, rfl, rfl⟩ rfl rfl rfl rfl rfl (by kernel_rfl) Tryz.func4 (by kernel_rfl)
    (of_decide_eq_true (by kernel_rfl)) (by unfold Func.isWrapper; first | (rw [if_pos (by decide +kernel)]; kernel_rfl) | (rw [if_neg (by decide +kernel)]; exact ⟨rfl, rfl⟩))
    (fun os started H enc _ F => by rw [OpenClaim.pre_eq_preRow]; exact substMeans_lifted os started H enc F)
theorem substMeans_plain (f : FuncId) (fn : Func) (hf : Tryz.pinned.checked.prog.funcNamed Rows.substMeansUptoRow.func = some f) (hfn : Tryz.pinned.checked.prog.funcs[f]? = some fn) :
    false = Tryz.pinned.checked.prog.looks [] ∧ ∀ (j : Nat) t, fn.params[j]? = some t → Tryz.pinned.checked.prog.wantsStandIn t = false := by
  obtain rfl : f = 4 := Option.some.inj ((show Tryz.prog.funcNamed Rows.substMeansUptoRow.func = some 4 by kernel_rfl).symm.trans hf) |>.symm
  obtain rfl : fn = Tryz.f4 := (Option.some.inj (Tryz.func4.symm.trans hfn)).symm
  refine ⟨by kernel_rfl, fun j t ht => ?_⟩
  rw [Tryz.params4] at ht
  have hm : t ∈ ([30] : List Nat) := by simpa using Array.mem_of_getElem? ht
  have hall : (([30] : List Nat).all fun u => !Tryz.prog.wantsStandIn u) = true := by kernel_rfl
  exact (show Tryz.prog.wantsStandIn t = false by simpa using List.all_eq_true.1 hall t hm)
theorem substMeans_card : Rows.SubstMeansUptoCardSaid :=
  Claim7.holds_tied_plain_at .later [] _ _ _ _ substMeans_said (fun _ h => by cases h) (by kernel_rfl) (fun _ h => by cases h) substMeansUpto_row_tie rfl ⟨rfl, rfl⟩ (by kernel_rfl) rfl substMeans_plain (by kernel_rfl)
end Go.Proofs.YtgcnjpiiofjljaaGreatDoor
