import Derived.Deep.DeepCutAuto
import Derived.BigQuiet
import Derived.Test.YtfnfbljijkjkjaaGreatKSRApp
/- What the document's Check and Is answer of binds. -/
namespace Go.Proofs.YtfnfbljijkjkjaaGreat
open Go.RowKit Go.Deep

/-- A text that is not above another one. -/
def leS (a b : ByteArray) : Bool := Op.bytesLess a.toList b.toList || (a.toList == b.toList)
def badV (prev : Option ByteArray) (x : Bn) : Bool := !(varB x.1) || (match prev with | some p => leS x.1 p | none => false) || (x.2.1.1.toList == x.1.toList)
/-- What may not be of a bind behind another one. -/
def bdE (sg : List Sym) (prev : Option ByteArray) (x : Bn) : Int :=
  if badV prev x = true then 71 else if 400 < nodesF x.2.2 + 1 then 73 else if rightB sg x.2 = false then 72 else if exN (canonT (sgOf sg) x.2).1 x.2.1 (canonT (sgOf sg) x.2).2 x.2.2 = false then 72 else 0
/-- The first bind that may not be. -/
def chkB (sg : List Sym) : List Bn → Option ByteArray → Nat → Int × Nat
  | [], _, _ => (0, 0)
  | x :: r, p, i => if bdE sg p x = 0 then chkB sg r (some x.1) (i + 1) else (bdE sg p x, i)
def prevB (bs : List Bn) (j : Nat) : Option ByteArray := if j = 0 then none else (bs[j - 1]?).map (·.1)
theorem chkB_step {sg : List Sym} {bs : List Bn} {j : Nat} (h : j < bs.length) : chkB sg (bs.drop j) (prevB bs j) j = if bdE sg (prevB bs j) bs[j] = 0 then chkB sg (bs.drop (j + 1)) (prevB bs (j + 1)) (j + 1) else (bdE sg (prevB bs j) bs[j], j) := by
  rw [List.drop_eq_getElem_cons h]
  conv => lhs; unfold chkB
  have : prevB bs (j + 1) = some bs[j].1 := by simp [prevB, h]
  rw [this]
set_option maxRecDepth 100000 in
set_option maxHeartbeats 8000000 in
theorem rchk_any (S : Option Addr) (n cap : Nat) (sg : List Sym) (p : Option Addr) (bcap : Nat) (bs : List Bn) (w : World) (hS : SigAt w S n sg) (hB : BindsAt w p bs.length bs) (hn : bs.length ≤ 1048576) (hnd : ∀ b ∈ bs, nodesF b.2.2 ≤ 1048576) :
    Calls Tryz.prog 20 #[.slice S n cap, .slice p bs.length bcap] w fun e w' => e = .returned (.tuple #[.int .i64 (chkB sg bs none 0).1, .int .i64 (chkB sg bs none 0).2]) ∧ Below w.heap.size w w' := by
  have HB := hid hB; have HS := hid hS; have HND := hid hnd
  obtain ⟨R, hR⟩ : ∃ R, chkB sg bs none 0 = R := ⟨_, rfl⟩
  rw [hR]
  have HR := hid hR
  clear hB hS hnd hR
  go_enter Tryz.func20, Tryz.ntmps20
  go_wp2_with fail
  go_loopw [6, 7, 8, 9, 10] (fun iv _ _ _ _ wr => ∃ (j : Nat), j ≤ bs.length ∧ iv = .int .i64 j ∧ chkB sg (bs.drop j) (prevB bs j) j = R ∧ Below w.heap.size w wr) (fun iv _ _ _ _ _ => bs.length - (intOf iv).toNat)
  case atStart => exact ⟨0, Nat.zero_le _, rfl, HR.out, Below.refl _ _⟩
  case round =>
    obtain ⟨j, hj, rfl, hc, hlow⟩ := hrel
    have HW := hid hlow
    clear hlow
    by_cases hlt : j < bs.length
    · rw [chkB_step hlt] at hc
      obtain ⟨b1, o1, a1, c1, rfl, hbd⟩ := (HB.out.below HW.out).cells j hlt
      have hfit := HB.out.fits bs[j] (List.getElem_mem hlt)
      have hnod := HND.out bs[j] (List.getElem_mem hlt)
      obtain ⟨⟨vn, ⟨x, l⟩⟩, hy⟩ : ∃ y, bs[j] = y := ⟨_, rfl⟩
      rw [hy] at hbd hc hfit hnod
      have HBD := hid hbd; have HC := hid hc
      have p0 := hbd.var
      dsimp only at p0 hfit hnod
      have HV := hid (rvar_any vn wr hfit)
      clear hbd hc hy
      go_wp2_with fail
      refine HV.out.mono ?_
      rintro e w1 ⟨rfl, hw1⟩
      subst w1
      have HOV := hid fun (W : World) (hW : Below wr.heap.size wr W) => over_any x l a1 c1 400 W (HBD.out.tm.below hW) (by decide)
      have HRT := hid fun (W : World) (hW : Below wr.heap.size wr W) => rright_any S n cap sg (x, l) a1 c1 W ((HS.out.below HW.out).below hW) (HBD.out.tm.below hW)
      have HIS := hid fun (W : World) (hW : Below wr.heap.size wr W) => is_any S n cap sg (x, l) a1 c1 W ((HS.out.below HW.out).below hW) (HBD.out.tm.below hW) hnod
      have hne := later_some wr
      have q0 := later_cell HBD.out.var; have q1 := later_cell HBD.out.name
      dsimp only at q0 q1 HRT HIS
      have hj0 : (0 : Int) ≤ (j : Int) := by omega
      have hjn : (j : Int) < (bs.length : Int) := by omega
      clear p0 HV
      obtain ⟨bv, hbv⟩ : ∃ bv, badV (prevB bs j) (vn, (x, l)) = bv := ⟨_, rfl⟩
      have HBW := hid hbv
      go_upto_region 5 with fail
      go_cut [56] (fun cv wx => cv = .bool bv ∧ Below wr.heap.size wr wx)
      case first =>
        by_cases hv : varB vn = true
        · by_cases hjz : j = 0
          · subst hjz
            simp only [Nat.zero_mul, Nat.add_zero] at q0 q1
            by_cases he : x.1.toList = vn.toList
            · have HBV : Hid (bv = true) := hid (by rw [← hbv]; simp [badV, prevB, hv, he])
              have heb : (x.1.toList == vn.toList) = true := by simp [he]
              clear hbv
              (refine wp_region_later (by kernel_rfl) (by kernel_rfl) ?_
               repeat (go_big_quiet_step (fail))
               refine wpQuiet_nil ?_
               intro _ hw'
               obtain ⟨b2, hw''⟩ := hw'
               subst hw''
               go_wp2
               go_meet
               exact ⟨congrArg Value.bool (by rw [HBV.out]), b2.below⟩)
            · have HBV : Hid (bv = false) := hid (by rw [← hbv]; simp [badV, prevB, hv, he])
              have heb : (x.1.toList == vn.toList) = false := by simp [he]
              clear hbv
              (refine wp_region_later (by kernel_rfl) (by kernel_rfl) ?_
               repeat (go_big_quiet_step (fail))
               refine wpQuiet_nil ?_
               intro _ hw'
               obtain ⟨b2, hw''⟩ := hw'
               subst hw''
               go_wp2
               go_meet
               exact ⟨congrArg Value.bool (by rw [HBV.out]), b2.below⟩)
          · obtain ⟨jp, rfl⟩ : ∃ jp, j = jp + 1 := ⟨j - 1, by omega⟩
            obtain ⟨b2', o2', a2', c2', e2', hbd'⟩ := (HB.out.below HW.out).cells jp (by omega)
            cases e2'
            obtain ⟨vp, hvp⟩ : ∃ vp, bs[jp].1 = vp := ⟨_, rfl⟩
            have r0 := later_cell hbd'.var
            rw [hvp] at r0
            have hpv : prevB bs (jp + 1) = some vp := by rw [← hvp]; simp [prevB, (show jp < bs.length by omega)]
            have hjp : (0 : Int) < ((jp + 1 : Nat) : Int) := by omega
            have hjq : (((jp + 1 : Nat) : Int) - 1) = (jp : Int) := by omega
            clear hbd' hvp
            rw [hpv] at hbv
            cases hl1 : Op.bytesLess vn.toList vp.toList
            · by_cases hl2 : vn.toList = vp.toList
              · have HBV : Hid (bv = true) := hid (by rw [← hbv]; simp [badV, leS, hl2])
                have hlb : (vn.toList == vp.toList) = true := by simp [hl2]
                clear hbv
                (refine wp_region_later (by kernel_rfl) (by kernel_rfl) ?_
                 repeat (go_big_quiet_step (fail))
                 refine wpQuiet_nil ?_
                 intro _ hw'
                 obtain ⟨b2, hw''⟩ := hw'
                 subst hw''
                 go_wp2
                 go_meet
                 exact ⟨congrArg Value.bool (by rw [HBV.out]), b2.below⟩)
              · have hlb : (vn.toList == vp.toList) = false := by simp [hl2]
                by_cases he : x.1.toList = vn.toList
                · have HBV : Hid (bv = true) := hid (by rw [← hbv]; simp [badV, he])
                  have heb : (x.1.toList == vn.toList) = true := by simp [he]
                  clear hbv
                  (refine wp_region_later (by kernel_rfl) (by kernel_rfl) ?_
                   repeat (go_big_quiet_step (fail))
                   refine wpQuiet_nil ?_
                   intro _ hw'
                   obtain ⟨b2, hw''⟩ := hw'
                   subst hw''
                   go_wp2
                   go_meet
                   exact ⟨congrArg Value.bool (by rw [HBV.out]), b2.below⟩)
                · have HBV : Hid (bv = false) := hid (by rw [← hbv]; simp [badV, leS, hv, hl1, hl2, he])
                  have heb : (x.1.toList == vn.toList) = false := by simp [he]
                  clear hbv
                  (refine wp_region_later (by kernel_rfl) (by kernel_rfl) ?_
                   repeat (go_big_quiet_step (fail))
                   refine wpQuiet_nil ?_
                   intro _ hw'
                   obtain ⟨b2, hw''⟩ := hw'
                   subst hw''
                   go_wp2
                   go_meet
                   exact ⟨congrArg Value.bool (by rw [HBV.out]), b2.below⟩)
            · have HBV : Hid (bv = true) := hid (by rw [← hbv]; simp [badV, leS, hl1])
              clear hbv
              (refine wp_region_later (by kernel_rfl) (by kernel_rfl) ?_
               repeat (go_big_quiet_step (fail))
               refine wpQuiet_nil ?_
               intro _ hw'
               obtain ⟨b2, hw''⟩ := hw'
               subst hw''
               go_wp2
               go_meet
               exact ⟨congrArg Value.bool (by rw [HBV.out]), b2.below⟩)
        · have hv' : varB vn = false := by simpa using hv
          have HBV : Hid (bv = true) := hid (by rw [← hbv]; simp [badV, hv'])
          clear hbv
          (refine wp_region_later (by kernel_rfl) (by kernel_rfl) ?_
           repeat (go_big_quiet_step (fail))
           refine wpQuiet_nil ?_
           intro _ hw'
           obtain ⟨b2, hw''⟩ := hw'
           subst hw''
           go_wp2
           go_meet
           exact ⟨congrArg Value.bool (by rw [HBV.out]), b2.below⟩)
      case rest =>
        obtain ⟨rfl, hb5⟩ := hcut
        have HW5 := hid hb5
        clear q0 q1 hne hb5
        have hR : R = if badV (prevB bs j) (vn, (x, l)) = true then (71, j) else if 400 < nodesF l + 1 then (73, j) else if rightB sg (x, l) = false then (72, j) else if exN (canonT (sgOf sg) (x, l)).1 x (canonT (sgOf sg) (x, l)).2 l = false then (72, j) else chkB sg (bs.drop (j + 1)) (prevB bs (j + 1)) (j + 1) := by
          rw [← HC.out]
          unfold bdE
          dsimp only
          split
          · rfl
          · split
            · rfl
            · split
              · rfl
              · split
                · rfl
                · rfl
        rw [hbv] at hR
        cases bv with
        | true =>
          rw [if_pos rfl] at hR
          subst hR
          go_wp2
          go_ret2
          exact ⟨rfl, HW.out.trans (HW5.out.mono HW.out.size)⟩
        | false =>
          rw [if_neg (by simp)] at hR
          have HRR := hid hR
          clear hR hbv HBW HC
          have bd := HBD.out.below HW5.out
          have p1 := bd.name; have p2 := bd.sym; have p3 := bd.list
          dsimp only at p1 p2 p3
          clear bd
          go_wp2_with fail
          refine (HOV.out _ HW5.out).mono ?_
          rintro e w6 ⟨rfl, hb6⟩
          have HW6 := hid (HW5.out.trans (hb6.mono HW5.out.size))
          clear hb6 p1 p2 p3
          by_cases hov : 400 < nodesF l + 1
          · have hR := HRR.out
            rw [if_pos hov] at hR
            rw [decide_eq_true hov]
            subst hR
            clear HRR hov
            go_wp2
            go_ret2
            exact ⟨rfl, HW.out.trans (HW6.out.mono HW.out.size)⟩
          · have hR := HRR.out
            rw [if_neg hov] at hR
            rw [decide_eq_false hov]
            have HRR2 := hid hR
            clear HRR hov hR
            have bd := HBD.out.below HW6.out
            have p1 := bd.name; have p2 := bd.sym; have p3 := bd.list
            dsimp only at p1 p2 p3
            clear bd
            go_wp2_with fail
            refine (HRT.out _ HW6.out).mono ?_
            rintro e w7 ⟨rfl, hb7⟩
            have HW7 := hid (HW6.out.trans (hb7.mono HW6.out.size))
            clear hb7 p1 p2 p3
            cases hrt : rightB sg (x, l) with
            | false =>
              have hR := HRR2.out
              rw [if_pos hrt] at hR
              subst hR
              clear HRR2 hrt
              go_wp2
              go_ret2
              exact ⟨rfl, HW.out.trans (HW7.out.mono HW.out.size)⟩
            | true =>
              have hR := HRR2.out
              rw [if_neg (by simp [hrt])] at hR
              have HRR3 := hid hR
              clear HRR2 hrt hR
              have bd := HBD.out.below HW7.out
              have p1 := bd.name; have p2 := bd.sym; have p3 := bd.list
              dsimp only at p1 p2 p3
              clear bd
              go_wp2_with fail
              refine (HIS.out _ HW7.out).mono ?_
              rintro e w8 ⟨rfl, hb8⟩
              have HW8 := hid (HW7.out.trans (hb8.mono HW7.out.size))
              clear hb8 p1 p2 p3
              cases hex : exN (canonT (sgOf sg) (x, l)).1 x (canonT (sgOf sg) (x, l)).2 l with
              | false =>
                have hR := HRR3.out
                rw [if_pos hex] at hR
                subst hR
                clear HRR3 hex
                go_wp2
                go_ret2
                exact ⟨rfl, HW.out.trans (HW8.out.mono HW.out.size)⟩
              | true =>
                have hR := HRR3.out
                rw [if_neg (by simp [hex])] at hR
                have HRR4 := hid hR
                clear HRR3 hex hR
                go_wp2
                go_roundw
                case rel =>
                  exact ⟨j + 1, by omega, by go_num, HRR4.out.symm, HW.out.trans (HW8.out.mono HW.out.size)⟩
                case measure => simp [intOf]; omega
    · have he : j = bs.length := by omega
      rw [he, List.drop_length] at hc
      have hc' : R = (0, 0) := hc.symm
      subst hc'
      clear hc he
      go_wp2
      go_ret2
      exact ⟨rfl, HW.out⟩
end Go.Proofs.YtfnfbljijkjkjaaGreat
/- What the document's Is answers of binds. -/
namespace Go.Proofs.YtfnfbljijkjkjaaGreat
open Go.RowKit Go.Deep

set_option maxRecDepth 100000 in
set_option maxHeartbeats 2000000 in
theorem ris_any (S : Option Addr) (n cap : Nat) (sg : List Sym) (p : Option Addr) (bcap : Nat) (bs : List Bn) (w : World) (hS : SigAt w S n sg) (hB : BindsAt w p bs.length bs) (hn : bs.length ≤ 1048576) (hnd : ∀ b ∈ bs, nodesF b.2.2 ≤ 1048576) :
    Calls Tryz.prog 8 #[.slice S n cap, .slice p bs.length bcap] w fun e w' => e = .returned (.bool (decide ((chkB sg bs none 0).1 = 0))) ∧ Below w.heap.size w w' := by
  have HC := hid (rchk_any S n cap sg p bcap bs w hS hB hn hnd)
  obtain ⟨⟨ev, iv⟩, hev⟩ : ∃ R, chkB sg bs none 0 = R := ⟨_, rfl⟩
  rw [hev] at HC ⊢
  clear hev hS hB
  go_enter Tryz.func8, Tryz.ntmps8
  go_wp2_with fail
  refine HC.out.mono ?_
  rintro e w1 ⟨rfl, hb1⟩
  have HL := hid hb1
  clear hb1 HC
  go_wp2_with fail
  go_ret
  exact ⟨rfl, HL.out⟩
end Go.Proofs.YtfnfbljijkjkjaaGreat
