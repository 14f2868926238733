/- The walk of BagPairs. -/
import Derived.Test.YtlbmamkkbpjafaaBBack
import Derived.Test.YtlbmamkkbpjafaaDLess
import Derived.Test.YtlbmamkkbpjafaaDCom
import Derived.Test.YtlbmamkkbpjafaaDWith
import Derived.Test.YtlbmamkkbpjafaaDJoin
namespace Go.Proofs.Ytlbmamkkbpjafaa
open Go.RowKit Go.Deep

theorem less_nil {l : List It} (hl : Bg l) : lessP l [] = l := by
  have h : ∀ r : List It, (∀ y ∈ r, 1 ≤ y.2) → keepP (fun y => y.2 - cntK y.1.1 []) r = r := fun r => by
    induction r with
    | nil => exact fun _ => rfl
    | cons y r ih =>
      intro hr
      have h1 := hr y List.mem_cons_self
      rw [keepP_cons, ih (fun z hz => hr z (List.mem_cons_of_mem _ hz))]
      have hc : cntK y.1.1 [] = 0 := rfl
      rw [hc, if_pos (by omega), show y.2 - 0 = y.2 by omega]
      rfl
  exact h l hl.pos
theorem com_nil (l : List It) : comP l [] = [] := by
  induction l with
  | nil => rfl
  | cons y r ih =>
    show (if 0 < min y.2 (cntK y.1.1 []) then _ else []) ++ comP r [] = []
    have hc : cntK y.1.1 [] = 0 := rfl
    rw [hc, if_neg (by omega), ih]
    rfl
theorem within_nil {l : List It} (hl : Bg l) : withinP l [] = decide (sumN l = 0) := by
  match l, hl with
  | [], _ => rfl
  | y :: r, hl =>
    have h1 := hl.pos y List.mem_cons_self
    have h2 := sumN_nn r (fun z hz => hl.pos z (List.mem_cons_of_mem _ hz))
    have hf : withinP (y :: r) [] = false := by
      cases hw : withinP (y :: r) [] with
      | false => rfl
      | true =>
        have h6 : y.2 ≤ cntK y.1.1 [] := within_all.1 hw y List.mem_cons_self
        have hc : cntK y.1.1 [] = 0 := rfl
        omega
    rw [hf, sumN_cons, eq_comm, decide_eq_false_iff_not]
    omega
theorem nil_bg : Bg [] := ⟨fun i j hi => absurd hi (Nat.not_lt_zero _), fun y hy => absurd hy (by simp), by decide⟩
/-- Both bags of the program's and both of the document's. -/
structure Pr (W : World) (Bx By Yp Yq : Nat) (L M : List It) (px : Option Addr) (cx : Nat) (py : Option Addr) (cy : Nat) (qx : Option Addr) (dx : Nat) (qy : Option Addr) (dy : Nat) : Prop where
  x : BagAt 0 Bx W L px cx
  y : BagAt 0 By W M py cy
  p : W.cell? ⟨Yp, 0, none⟩ = some (.slice qx L.length dx)
  q : W.cell? ⟨Yq, 0, none⟩ = some (.slice qy M.length dy)
  pr : W.ownsRow 0 60 3 (.slice qx L.length dx) L.length (itAll L)
  qr : W.ownsRow 0 60 3 (.slice qy M.length dy) M.length (itAll M)
theorem Pr.below {W W' : World} {Bx By Yp Yq : Nat} {L M : List It} {px : Option Addr} {cx : Nat} {py : Option Addr} {cy : Nat} {qx : Option Addr} {dx : Nat} {qy : Option Addr} {dy : Nat} (h : Pr W Bx By Yp Yq L M px cx py cy qx dx qy dy) (hb : Below W.heap.size W W') : Pr W' Bx By Yp Yq L M px cx py cy qx dx qy dy :=
  ⟨h.x.below hb, h.y.below hb, below_cell hb _ _ h.p, below_cell hb _ _ h.q, owns60_below h.pr hb, owns60_below h.qr hb⟩
theorem reads_bg {l : List It} (hl : Bg l) (hn : l.length ≤ 1048576) (B : Nat) (p : Option Addr) (c : Nat) (q : Option Addr) (d : Nat) (w : World) (hA : BagAt 0 B w l p c) (hO : w.ownsRow 0 60 3 (.slice q l.length d) l.length (itAll l)) :
    Calls Try.prog 13 #[.pointer (some ⟨B, 0, none⟩), .agg #[.slice q l.length d]] w fun e w' => e = .returned (.bool true) ∧ Below w.heap.size w w' :=
  reads_any 0 B p c 0 q d l w hA hO hl.srt hn hl.pos (by have := hl.sum; omega)
set_option maxRecDepth 100000 in
set_option maxHeartbeats 16000000 in
theorem bagPairs_walk (a0 : Option Addr) (c0 : Nat) (l0 : List Th) (a1 : Option Addr) (c1 : Nat) (l1 : List Th) (w : World) (hT0 : ThsAt w a0 l0.length l0) (hT1 : ThsAt w a1 l1.length l1) (hn : l0.length + l1.length ≤ 1048576) :
    Calls Try.prog 4 #[.slice a0 l0.length c0, .slice a1 l1.length c1] w fun e w' => e = .returned (.bool true) ∧ Below w.heap.size w w' := by
  obtain ⟨hL, hLn⟩ := mk_bg l0 (by omega)
  obtain ⟨hM, hMn⟩ := mk_bg l1 (by omega)
  have hLs : sumN (mkP l0) = l0.length := (mkP_all l0).2.2
  have hMs : sumN (mkP l1) = l1.length := (mkP_all l1).2.2
  have HM0 := hid (made_any a0 c0 l0 w hT0 (by omega))
  have HT1 := hid hT1
  clear hT0 hT1
  generalize hl0 : mkP l0 = L at hL hLn hLs HM0
  have HM1 : Hid (∀ W, Below w.heap.size w W → Calls Try.prog 9 #[.slice a1 l1.length c1] W fun e w' => ∃ B p c' q d, e = .returned (.tuple #[.pointer (some ⟨B, 0, none⟩), .agg #[.slice q (mkP l1).length d]]) ∧ BagAt W.heap.size B w' (mkP l1) p c' ∧ w'.ownsRow W.heap.size 60 3 (.slice q (mkP l1).length d) (mkP l1).length (itAll (mkP l1)) ∧ W.heap.size ≤ B ∧ Below W.heap.size W w') := hid fun W hW => made_any a1 c1 l1 W (HT1.out.below hW) (by omega)
  generalize hl1 : mkP l1 = M at hM hMn hMs HM1
  have HL := hid hL; have HM := hid hM
  have hjf := can_facts (app_pos hL hM)
  have hjs : sumN (canB (L ++ M)) ≤ 1048576 := by
    rw [hjf.2.2.1, sumN_app, hLs, hMs]
    omega
  have hjl := len_sum _ hjf.2.1
  have HJ : Hid (Bg (canB (L ++ M))) := hid ⟨hjf.1, hjf.2.1, by omega⟩
  have HJN : Hid ((canB (L ++ M)).length ≤ 1048576) := hid (by omega)
  have HSS : Hid (sumN L + sumN M ≤ 1048576) := hid (by omega)
  clear hl0 hl1 HT1 hL hM hjf hjs hjl hLs hMs
  generalize l1.length = n1 at HM1 hn ⊢
  generalize l0.length = n0 at HM0 hn ⊢
  go_enter Try.func4, Try.ntmps4
  go_wp2_with fail
  refine HM0.out.mono ?_
  rintro e w1 ⟨Bx, px, cx, qx, dx, rfl, hAx, hOx, hBx, hb1⟩
  have y1 : (w1.alloc (.cells #[.slice none 0 0] 27)).cell? ⟨w1.heap.size, 0, none⟩ = some (.slice none 0 0) := cell_box (World.alloc_heap_new w1 _) rfl
  have b1 := alloc_below0 w1 (.cells #[.slice qx L.length dx] 27)
  have HA1 := hid (bag_mono (hAx.below b1) (Nat.zero_le _)); have HB1 := hid (hb1.trans (b1.mono hb1.size))
  have HP1 : Hid ((w1.alloc (.cells #[.slice qx L.length dx] 27)).cell? ⟨w1.heap.size, 0, none⟩ = some (.slice qx L.length dx)) := hid (cell_box (World.alloc_heap_new w1 _) rfl)
  have HR1 := hid (owns60_mono (owns60_below hOx b1) (Nat.zero_le _))
  clear hAx hOx hb1 b1 HM0 hBx
  go_wp2_with fail
  clear y1
  generalize w1.alloc (.cells #[.slice qx L.length dx] 27) = V1 at HA1 HB1 HP1 HR1 ⊢
  generalize w1.heap.size = Yp at HP1 ⊢
  refine (HM1.out V1 HB1.out).mono ?_
  rintro e w2 ⟨By, py, cy, qy, dy, rfl, hAy, hOy, hBy, hb2⟩
  have y2 : (w2.alloc (.cells #[.slice none 0 0] 27)).cell? ⟨w2.heap.size, 0, none⟩ = some (.slice none 0 0) := cell_box (World.alloc_heap_new w2 _) rfl
  have b2 := alloc_below0 w2 (.cells #[.slice qy M.length dy] 27)
  have hb2' := hb2.trans (b2.mono hb2.size)
  have HPR : Hid (Pr (w2.alloc (.cells #[.slice qy M.length dy] 27)) Bx By Yp w2.heap.size L M px cx py cy qx dx qy dy) := hid ⟨HA1.out.below hb2', bag_mono (hAy.below b2) (Nat.zero_le _), below_cell hb2' _ _ HP1.out, cell_box (World.alloc_heap_new w2 _) rfl, owns60_below HR1.out hb2', owns60_mono (owns60_below hOy b2) (Nat.zero_le _)⟩
  have HB2 := hid (HB1.out.trans (hb2'.mono HB1.out.size))
  clear hAy hOy hb2 b2 HM1 hBy HA1 HP1 HR1 hb2'
  go_upto_region 5 with fail
  clear y2
  generalize w2.alloc (.cells #[.slice qy M.length dy] 27) = V2 at HPR HB2 ⊢
  generalize w2.heap.size = Yq at HPR ⊢
  have HRD : Hid (∀ W, Pr W Bx By Yp Yq L M px cx py cy qx dx qy dy → ∀ W2, Below W.heap.size W W2 → Calls Try.prog 42 #[.pointer (some ⟨Bx, 0, none⟩), .pointer (some ⟨By, 0, none⟩)] W2 (NewRow W2 M)) := hid fun W hP W2 hW2 => read_any Bx By 0 _ py cy M W2 (hP.x.below hW2).1 (hP.y.below hW2) HM.out hMn
  have HCJ : Hid (∀ W, Pr W Bx By Yp Yq L M px cx py cy qx dx qy dy → Calls Try.prog 16 #[.pointer (some ⟨Bx, 0, none⟩), .pointer (some ⟨By, 0, none⟩)] W (NewBag W (canB (L ++ M)))) := hid fun W hP => join_gen Bx 0 _ px cx L M W hP.x HL.out hLn HM.out hMn (HRD.out W hP)
  have HDJ : Hid (∀ W, Pr W Bx By Yp Yq L M px cx py cy qx dx qy dy → Calls Try.prog 17 #[.agg #[.slice qx L.length dx], .agg #[.slice qy M.length dy]] W (DocBag W (canB (L ++ M)))) := hid fun W hP => rjoin_any qx dx L qy dy M W hP.pr hP.qr HL.out HM.out HSS.out
  have HCL : Hid (∀ W, Pr W Bx By Yp Yq L M px cx py cy qx dx qy dy → Calls Try.prog 18 #[.pointer (some ⟨Bx, 0, none⟩), .pointer (some ⟨By, 0, none⟩)] W (NewBag W (lessP L M))) := hid fun W hP => less_gen Bx 0 _ px cx L M W hP.x HL.out hLn HM.out hMn (HRD.out W hP)
  have HDL : Hid (∀ W, Pr W Bx By Yp Yq L M px cx py cy qx dx qy dy → Calls Try.prog 19 #[.agg #[.slice qx L.length dx], .agg #[.slice qy M.length dy]] W (DocBag W (lessP L M))) := hid fun W hP => rless_any qx dx L qy dy M W hP.pr hP.qr HL.out HM.out hLn hMn
  have HCC : Hid (∀ W, Pr W Bx By Yp Yq L M px cx py cy qx dx qy dy → Calls Try.prog 20 #[.pointer (some ⟨Bx, 0, none⟩), .pointer (some ⟨By, 0, none⟩)] W (NewBag W (comP L M))) := hid fun W hP => com_gen Bx 0 _ px cx L M W hP.x HL.out hLn HM.out hMn (HRD.out W hP)
  have HDC : Hid (∀ W, Pr W Bx By Yp Yq L M px cx py cy qx dx qy dy → Calls Try.prog 21 #[.agg #[.slice qx L.length dx], .agg #[.slice qy M.length dy]] W (DocBag W (comP L M))) := hid fun W hP => rcom_any qx dx L qy dy M W hP.pr hP.qr HL.out HM.out hLn hMn
  have HRJ := hid (reads_bg HJ.out HJN.out)
  have HRL := hid (reads_bg (less_bg HL.out HM.out) (Nat.le_trans (keepP_len _ _) hLn))
  have HRC := hid (reads_bg (com_bg (m := M) HL.out) (Nat.le_trans (keepP_len _ _) hLn))
  generalize canB (L ++ M) = J at HCJ HDJ HRJ
  generalize hKL : lessP L M = KL at HCL HDL HRL
  generalize hKC : comP L M = KC at HCC HDC HRC
  clear hKL hKC HJ HJN
  have Q0 := hid HPR.out.p; have Q1 := hid HPR.out.q
  go_cut [9] (fun v wc => v = .bool true ∧ Below V2.heap.size V2 wc)
  case first =>
    go_region_held3 (fun w' => w'.cell? ⟨Yp, 0, none⟩ = some (.slice qx L.length dx) ∧ w'.cell? ⟨Yq, 0, none⟩ = some (.slice qy M.length dy)) ((first
      | (refine ⟨?_, ?_⟩ <;> (with_reducible refine below_cell (w := V2) ?_ _ _ ?_; (solve | (repeat' first | (with_reducible exact Below.refl _ V2) | (with_reducible exact HB5.out) | (with_reducible exact HB4.out) | (with_reducible exact HB3.out) | (with_reducible refine Below.drew ?_))); first | exact Q0.out | exact Q1.out))
      | fail)) ((first
      | (go_at_call 16; refine Calls.mono (HCJ.out _ ?_) ?_; (exact HPR.out.below (Below.refl _ V2).drew); rintro e w3 ⟨B3, p3, c3, rfl, ha3, _, hb3⟩; have HB3 : Hid (Below V2.heap.size V2 w3) := ((Below.refl _ V2).drew).trans hb3; have HA3 := hid (bag_mono ha3 (Nat.zero_le _)); clear hb3 ha3)
      | (go_at_call 17; refine Calls.mono (HDJ.out _ (HPR.out.below HB3.out)) ?_; rintro e w4 ⟨q4, d4, rfl, ho4, hb4⟩; have HB4 : Hid (Below V2.heap.size V2 w4) := HB3.out.trans (hb4.mono HB3.out.size); have HA4 := hid (HA3.out.below hb4); have HO4 := hid ho4; clear hb4 ho4)
      | (go_at_call 13; refine Calls.mono (HRJ.out B3 p3 c3 q4 d4 w4 HA4.out HO4.out) ?_; rintro e w5 ⟨rfl, hb5⟩; have HB5 : Hid (Below V2.heap.size V2 w5) := HB4.out.trans (hb5.mono HB4.out.size); clear hb5)
      | fail))
    all_goals (go_wp2_with fail; go_meet)
    all_goals exact ⟨rfl, HB5.out⟩
  case rest =>
  obtain ⟨rfl, hbc⟩ := hcut
  rename World => V3
  replace HPR := hid (HPR.out.below hbc)
  replace HB2 := hid (HB2.out.trans (hbc.mono HB2.out.size))
  clear hbc Q0 Q1 HCJ HDJ HRJ
  have Q0 := hid HPR.out.p; have Q1 := hid HPR.out.q
  go_upto_region 6 with fail
  go_cut [10] (fun v wc => v = .bool true ∧ Below V3.heap.size V3 wc)
  case first =>
    go_region_held3 (fun w' => w'.cell? ⟨Yp, 0, none⟩ = some (.slice qx L.length dx) ∧ w'.cell? ⟨Yq, 0, none⟩ = some (.slice qy M.length dy)) ((first
      | (refine ⟨?_, ?_⟩ <;> (with_reducible refine below_cell (w := V3) ?_ _ _ ?_; (solve | (repeat' first | (with_reducible exact Below.refl _ V3) | (with_reducible exact HB5.out) | (with_reducible exact HB4.out) | (with_reducible exact HB3.out) | (with_reducible refine Below.drew ?_))); first | exact Q0.out | exact Q1.out))
      | fail)) ((first
      | (go_at_call 18; refine Calls.mono (HCL.out _ ?_) ?_; (exact HPR.out.below (Below.refl _ V3).drew); rintro e w3 ⟨B3, p3, c3, rfl, ha3, _, hb3⟩; have HB3 : Hid (Below V3.heap.size V3 w3) := ((Below.refl _ V3).drew).trans hb3; have HA3 := hid (bag_mono ha3 (Nat.zero_le _)); clear hb3 ha3)
      | (go_at_call 19; refine Calls.mono (HDL.out _ (HPR.out.below HB3.out)) ?_; rintro e w4 ⟨q4, d4, rfl, ho4, hb4⟩; have HB4 : Hid (Below V3.heap.size V3 w4) := HB3.out.trans (hb4.mono HB3.out.size); have HA4 := hid (HA3.out.below hb4); have HO4 := hid ho4; clear hb4 ho4)
      | (go_at_call 13; refine Calls.mono (HRL.out B3 p3 c3 q4 d4 w4 HA4.out HO4.out) ?_; rintro e w5 ⟨rfl, hb5⟩; have HB5 : Hid (Below V3.heap.size V3 w5) := HB4.out.trans (hb5.mono HB4.out.size); clear hb5)
      | fail))
    all_goals (go_wp2_with fail; go_meet)
    all_goals exact ⟨rfl, HB5.out⟩
  case rest =>
  obtain ⟨rfl, hbc⟩ := hcut
  rename World => V4
  replace HPR := hid (HPR.out.below hbc)
  replace HB2 := hid (HB2.out.trans (hbc.mono HB2.out.size))
  clear hbc Q0 Q1 HCL HDL HRL
  have Q0 := hid HPR.out.p; have Q1 := hid HPR.out.q
  go_upto_region 7 with fail
  go_cut [11] (fun v wc => v = .bool true ∧ Below V4.heap.size V4 wc)
  case first =>
    go_region_held3 (fun w' => w'.cell? ⟨Yp, 0, none⟩ = some (.slice qx L.length dx) ∧ w'.cell? ⟨Yq, 0, none⟩ = some (.slice qy M.length dy)) ((first
      | (refine ⟨?_, ?_⟩ <;> (with_reducible refine below_cell (w := V4) ?_ _ _ ?_; (solve | (repeat' first | (with_reducible exact Below.refl _ V4) | (with_reducible exact HB5.out) | (with_reducible exact HB4.out) | (with_reducible exact HB3.out) | (with_reducible refine Below.drew ?_))); first | exact Q0.out | exact Q1.out))
      | fail)) ((first
      | (go_at_call 20; refine Calls.mono (HCC.out _ ?_) ?_; (exact HPR.out.below (Below.refl _ V4).drew); rintro e w3 ⟨B3, p3, c3, rfl, ha3, _, hb3⟩; have HB3 : Hid (Below V4.heap.size V4 w3) := ((Below.refl _ V4).drew).trans hb3; have HA3 := hid (bag_mono ha3 (Nat.zero_le _)); clear hb3 ha3)
      | (go_at_call 21; refine Calls.mono (HDC.out _ (HPR.out.below HB3.out)) ?_; rintro e w4 ⟨q4, d4, rfl, ho4, hb4⟩; have HB4 : Hid (Below V4.heap.size V4 w4) := HB3.out.trans (hb4.mono HB3.out.size); have HA4 := hid (HA3.out.below hb4); have HO4 := hid ho4; clear hb4 ho4)
      | (go_at_call 13; refine Calls.mono (HRC.out B3 p3 c3 q4 d4 w4 HA4.out HO4.out) ?_; rintro e w5 ⟨rfl, hb5⟩; have HB5 : Hid (Below V4.heap.size V4 w5) := HB4.out.trans (hb5.mono HB4.out.size); clear hb5)
      | fail))
    all_goals (go_wp2_with fail; go_meet)
    all_goals exact ⟨rfl, HB5.out⟩
  case rest =>
  obtain ⟨rfl, hbc⟩ := hcut
  rename World => V5
  replace HPR := hid (HPR.out.below hbc)
  replace HB2 := hid (HB2.out.trans (hbc.mono HB2.out.size))
  clear hbc Q0 Q1 HCC HDC HRC
  have HW : Hid (∀ W, Pr W Bx By Yp Yq L M px cx py cy qx dx qy dy → Calls Try.prog 22 #[.pointer (some ⟨Bx, 0, none⟩), .pointer (some ⟨By, 0, none⟩)] W fun e w' => e = .returned (.bool (withinP L M)) ∧ Below W.heap.size W w') := hid fun W hP => within_any Bx By 0 0 px cx py cy L M W hP.x hP.y hLn HM.out hMn
  have HDW : Hid (∀ W, Pr W Bx By Yp Yq L M px cx py cy qx dx qy dy → Calls Try.prog 23 #[.agg #[.slice qx L.length dx], .agg #[.slice qy M.length dy]] W fun e w' => e = .returned (.bool (withinP L M)) ∧ Below W.heap.size W w') := hid fun W hP => rwithin_any qx dx L qy dy M W hP.pr hP.qr hLn hMn
  generalize withinP L M = bw at HW HDW
  have Q0 := hid HPR.out.p; have Q1 := hid HPR.out.q
  go_upto_region 8 with fail
  go_cut [12] (fun v wc => v = .bool true ∧ Below V5.heap.size V5 wc)
  case first =>
    go_region_held3 (fun w' => w'.cell? ⟨Yp, 0, none⟩ = some (.slice qx L.length dx) ∧ w'.cell? ⟨Yq, 0, none⟩ = some (.slice qy M.length dy)) ((first
      | (refine ⟨?_, ?_⟩ <;> (with_reducible refine below_cell (w := V5) ?_ _ _ ?_; (solve | (repeat' first | (with_reducible exact Below.refl _ V5) | (with_reducible exact HB4.out) | (with_reducible exact HB3.out) | (with_reducible refine Below.drew ?_))); first | exact Q0.out | exact Q1.out))
      | fail)) ((first
      | (go_at_call 22; refine Calls.mono (HW.out _ ?_) ?_; (exact HPR.out.below (Below.refl _ V5).drew); rintro e w3 ⟨rfl, hb3⟩; have HB3 : Hid (Below V5.heap.size V5 w3) := ((Below.refl _ V5).drew).trans hb3; clear hb3)
      | (go_at_call 23; refine Calls.mono (HDW.out _ (HPR.out.below HB3.out)) ?_; rintro e w4 ⟨rfl, hb4⟩; have HB4 : Hid (Below V5.heap.size V5 w4) := HB3.out.trans (hb4.mono HB3.out.size); clear hb4)
      | fail))
    all_goals (go_wp2_with fail; go_meet)
    all_goals exact ⟨by simp, HB4.out⟩
  case rest =>
  obtain ⟨rfl, hbc⟩ := hcut
  rename World => V6
  replace HPR := hid (HPR.out.below hbc)
  replace HB2 := hid (HB2.out.trans (hbc.mono HB2.out.size))
  clear hbc Q0 Q1 HW HDW
  have hcl : canB (L ++ []) = L := by rw [List.append_nil]; exact canB_srt HL.out.srt HL.out.pos
  have HN16 : Hid (∀ W, Pr W Bx By Yp Yq L M px cx py cy qx dx qy dy → Calls Try.prog 16 #[.pointer (some ⟨Bx, 0, none⟩), .pointer none] W (NewBag W L)) := hid fun W hP => by
    have h := join_gen Bx 0 (.pointer none) px cx L [] W hP.x HL.out hLn nil_bg (Nat.zero_le _) (fun W2 _ => read_nil Bx W2)
    rw [hcl] at h
    exact h
  have HN18 : Hid (∀ W, Pr W Bx By Yp Yq L M px cx py cy qx dx qy dy → Calls Try.prog 18 #[.pointer (some ⟨Bx, 0, none⟩), .pointer none] W (NewBag W L)) := hid fun W hP => by
    have h := less_gen Bx 0 (.pointer none) px cx L [] W hP.x HL.out hLn nil_bg (Nat.zero_le _) (fun W2 _ => read_nil Bx W2)
    rw [less_nil HL.out] at h
    exact h
  have HN20 : Hid (∀ W, Pr W Bx By Yp Yq L M px cx py cy qx dx qy dy → Calls Try.prog 20 #[.pointer (some ⟨Bx, 0, none⟩), .pointer none] W (NewBag W [])) := hid fun W hP => by
    have h := com_gen Bx 0 (.pointer none) px cx L [] W hP.x HL.out hLn nil_bg (Nat.zero_le _) (fun W2 _ => read_nil Bx W2)
    rw [com_nil] at h
    exact h
  have HN22 : Hid (∀ W, Pr W Bx By Yp Yq L M px cx py cy qx dx qy dy → Calls Try.prog 22 #[.pointer (some ⟨Bx, 0, none⟩), .pointer none] W fun e w' => e = .returned (.bool (decide (sumN L = 0))) ∧ Below W.heap.size W w') := hid fun W hP => by
    have h := within_gen Bx 0 (.pointer none) px cx L [] W hP.x hLn nil_bg (Nat.zero_le _) (read_nil Bx W)
    rw [within_nil HL.out] at h
    exact h
  have HN12 : Hid (∀ W, Pr W Bx By Yp Yq L M px cx py cy qx dx qy dy → Calls Try.prog 12 #[.agg #[.slice qx L.length dx]] W fun e w' => e = .returned (.int .i64 (sumN L)) ∧ Below W.heap.size W w') := hid fun W hP =>
    rlen_any qx dx L W (its_of60 hP.pr) hLn (fun k hk => by have := sumN_bd L HL.out.pos k; have := HL.out.sum; omega)
  have HNN : Hid (∀ B p c W, BagAt 0 B W [] p c → Calls Try.prog 13 #[.pointer (some ⟨B, 0, none⟩), .agg #[.slice none 0 0]] W fun e w' => e = .returned (.bool true) ∧ Below W.heap.size W w') := hid fun B p c W hA => reads_bg nil_bg (Nat.zero_le _) B p c none 0 W hA (World.ownsRow_nil _ _ _ _)
  have HRX := hid (reads_bg HL.out hLn)
  have HRY := hid (reads_bg HM.out hMn)
  generalize sumN L = sL at HN12 HN22
  clear hcl
  have Q0 := hid HPR.out.p
  go_upto_region 9 with fail
  go_cut [13] (fun v wc => v = .bool true ∧ Below V6.heap.size V6 wc)
  case first =>
    go_region_held3 (fun w' => w'.cell? ⟨Yp, 0, none⟩ = some (.slice qx L.length dx)) ((first
      | (with_reducible refine below_cell (w := V6) ?_ _ _ ?_; (solve | (repeat' first | (with_reducible exact Below.refl _ V6) | (with_reducible exact HB10.out) | (with_reducible exact HB9.out) | (with_reducible exact HB8.out) | (with_reducible exact HB7.out) | (with_reducible exact HB6.out) | (with_reducible exact HB5.out) | (with_reducible exact HB4.out) | (with_reducible exact HB3.out) | (with_reducible refine Below.drew ?_))); exact Q0.out)
      | fail)) ((first
      | (go_at_call 16; refine Calls.mono (HN16.out _ ?_) ?_; (exact HPR.out.below (Below.refl _ V6).drew); rintro e w3 ⟨B3, p3, c3, rfl, ha3, _, hb3⟩; have HB3 : Hid (Below V6.heap.size V6 w3) := ((Below.refl _ V6).drew).trans hb3; have HA3 := hid (bag_mono ha3 (Nat.zero_le _)); clear hb3 ha3)
      | (go_at_call 18; refine Calls.mono (HN18.out _ (HPR.out.below HB4.out)) ?_; rintro e w5 ⟨B5, p5, c5, rfl, ha5, _, hb5⟩; have HB5 : Hid (Below V6.heap.size V6 w5) := HB4.out.trans (hb5.mono HB4.out.size); have HA5 := hid (bag_mono ha5 (Nat.zero_le _)); clear hb5 ha5)
      | (go_at_call 20; refine Calls.mono (HN20.out _ (HPR.out.below HB6.out)) ?_; rintro e w7 ⟨B7, p7, c7, rfl, ha7, _, hb7⟩; have HB7 : Hid (Below V6.heap.size V6 w7) := HB6.out.trans (hb7.mono HB6.out.size); have HA7 := hid (bag_mono ha7 (Nat.zero_le _)); clear hb7 ha7)
      | (go_at_call 22; refine Calls.mono (HN22.out _ (HPR.out.below HB8.out)) ?_; rintro e w9 ⟨rfl, hb9⟩; have HB9 : Hid (Below V6.heap.size V6 w9) := HB8.out.trans (hb9.mono HB8.out.size); clear hb9)
      | (go_at_call 12; refine Calls.mono (HN12.out _ (HPR.out.below HB9.out)) ?_; rintro e w10 ⟨rfl, hb10⟩; have HB10 : Hid (Below V6.heap.size V6 w10) := HB9.out.trans (hb10.mono HB9.out.size); clear hb10)
      | (go_at_call 13; refine Calls.mono (HNN.out B7 p7 c7 w7 HA7.out) ?_; rintro e w8 ⟨rfl, hb8⟩; have HB8 : Hid (Below V6.heap.size V6 w8) := HB7.out.trans (hb8.mono HB7.out.size); clear hb8)
      | (go_at_call 13; refine Calls.mono (HRX.out B5 p5 c5 qx dx w5 HA5.out (HPR.out.below HB5.out).pr) ?_; rintro e w6 ⟨rfl, hb6⟩; have HB6 : Hid (Below V6.heap.size V6 w6) := HB5.out.trans (hb6.mono HB5.out.size); clear hb6)
      | (go_at_call 13; refine Calls.mono (HRX.out B3 p3 c3 qx dx w3 HA3.out (HPR.out.below HB3.out).pr) ?_; rintro e w4 ⟨rfl, hb4⟩; have HB4 : Hid (Below V6.heap.size V6 w4) := HB3.out.trans (hb4.mono HB3.out.size); clear hb4)
      | fail))
    all_goals (go_wp2_with fail; go_meet)
    all_goals exact ⟨by by_cases h : sL = 0 <;> simp [h], HB10.out⟩
  case rest =>
  obtain ⟨rfl, hbc⟩ := hcut
  rename World => V7
  replace HPR := hid (HPR.out.below hbc)
  replace HB2 := hid (HB2.out.trans (hbc.mono HB2.out.size))
  clear hbc Q0 HN12 HN16 HN18 HN20 HN22 HNN
  have Q0 := HPR.out.p; have Q1 := HPR.out.q
  go_wp2_with fail
  refine (HRX.out Bx px cx qx dx V7 HPR.out.x HPR.out.pr).mono ?_
  rintro e w8 ⟨rfl, hb8⟩
  have HP8 := hid (HPR.out.below hb8); have HB8 := hid (HB2.out.trans (hb8.mono HB2.out.size))
  replace Q0 := HP8.out.p; replace Q1 := HP8.out.q
  clear hb8 HPR HB2
  go_wp2_with fail
  refine (HRY.out By py cy qy dy w8 HP8.out.y HP8.out.qr).mono ?_
  rintro e w9 ⟨rfl, hb9⟩
  have HB9 := hid (HB8.out.trans (hb9.mono HB8.out.size))
  clear hb9
  go_wp2_with fail
  go_ret
  exact ⟨by first | rfl | simp, HB9.out⟩
end Go.Proofs.Ytlbmamkkbpjafaa
