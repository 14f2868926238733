import Derived.Test.YtfnfbljijkjkjaaGreatKUfR
/- Free of the program, whole. -/
namespace Go.Proofs.YtfnfbljijkjkjaaGreat
open Go.RowKit Go.Shelf Go.Deep

theorem all_cut {α : Type} {f : α → Bool} {l : List α} {j : Nat} (hj : j < l.length) (h : f l[j] = false) : l.all f = false := all_no hj h
/-- One equation that is taken out, looked at and dealt with. -/
theorem eqs_row {W : World} {g : Nat} {ks : List Kv} {m : Nat} (h : EqRow W g m ks) {P : List Eq2} (hk : ks = flatK P) : EqsAt W (some ⟨g, 0, none⟩) P := fun i hi => by
  obtain ⟨f1, f2⟩ := flatK_at P i hi
  have hl : (flatK P).length = 2 * P.length := flatK_len P
  obtain ⟨l1, e1⟩ := List.getElem?_eq_some_iff.1 f1
  obtain ⟨l2, e2⟩ := List.getElem?_eq_some_iff.1 f2
  have a1 := kv_at (flatK P) (2 * i) l1
  have a2 := kv_at (flatK P) (2 * i + 1) l2
  rw [e1, show 2 * i * 3 = i * 6 by omega] at a1
  rw [e2, show (2 * i + 1) * 3 = i * 6 + 3 by omega, show i * 6 + 3 + 1 = i * 6 + 4 by omega, show i * 6 + 3 + 2 = i * 6 + 5 by omega] at a2
  subst hk
  refine ⟨g, 0, rfl, ?_⟩
  simp only [Nat.zero_add]
  exact ⟨h.at a1.1, h.at a1.2.1, h.at a1.2.2, h.at a2.1, h.at a2.2.1, h.at a2.2.2⟩
theorem look_acts (sg : List Sym) (A B : Tn) : (lookP sg A B).act = 1 ∨ (lookP sg A B).act = 2 ∨ (lookP sg A B).act = 3 ∨ (lookP sg A B).act = 4 ∨ (lookP sg A B).act = 5 := by
  unfold lookP
  split
  · split
    · unfold ofVarsP
      split
      · exact .inl rfl
      · split <;> exact .inr (.inr (.inl rfl))
    · unfold ofVarP
      split
      · exact .inr (.inl rfl)
      · exact .inr (.inr (.inl rfl))
  · split
    · unfold ofVarP
      split
      · exact .inr (.inl rfl)
      · exact .inr (.inr (.inl rfl))
    · split
      · split
        · unfold sideP
          split
          · exact .inr (.inr (.inr (.inl rfl)))
          · exact .inr (.inl rfl)
        · exact .inr (.inr (.inr (.inr rfl)))
      · exact .inr (.inl rfl)
theorem names_put {bs bs' : List Bk} {nm : ByteArray} {T : Tn} (h : bs'.map btn = bs.map (fun b => (b.1, w1T nm T b.2.tn)) ++ [(nm, T)]) (hb : ∀ b ∈ bs, b.1.size ≤ maxLen) (hn : nm.size ≤ maxLen) : ∀ b ∈ bs', b.1.size ≤ maxLen := fun b hb' => by
  have h1 : btn b ∈ bs'.map btn := List.mem_map_of_mem hb'
  rw [h, List.mem_append] at h1
  rcases h1 with h1 | h1
  · obtain ⟨b', hb2, e⟩ := List.mem_map.1 h1
    have e2 : b'.1 = b.1 := congrArg (fun z : ByteArray × Tn => z.1) e
    rw [← e2]
    exact hb b' hb2
  · have e := List.mem_singleton.1 h1
    have e2 : b.1 = nm := congrArg (fun z : ByteArray × Tn => z.1) e
    rw [e2]
    exact hn
set_option maxRecDepth 100000 in
set_option maxHeartbeats 8000000 in
theorem free_any (hTo : ToldOk) (S : Option Addr) (n cap : Nat) (sg : List Sym) (P : List Eq2) (q : Option Addr) (d : Nat) (w : World) (hG : SigAt w S n sg) (hP : ∀ p ∈ P, TmAt w p.1.x p.1.a p.1.c p.1.l ∧ TmAt w p.2.x p.2.a p.2.c p.2.l) (hq : EqsAt w q P) (hok : ∀ p ∈ P, okT p.1.tn ∧ okT p.2.tn) (hs : sizeP P ≤ 1048576) :
    Calls Tryz.prog 13 #[.slice S n cap, .slice q P.length d] w (FreeEnd sg P w) := by
  have HG := hid hG; have HP := hid hP; have HQ := hid hq; have HTO := hid hTo
  have hl3 := sizeP_len P
  obtain ⟨f0, R, hfR, hF0⟩ := free_first (sg := sg) hok hs
  have HFR := hid hfR; have HF0 := hid hF0; have HOK := hid hok
  obtain ⟨nP, hnP⟩ : ∃ nP, P.length = nP := ⟨_, rfl⟩
  have HNP := hid hnP
  rw [hnP] at hl3 ⊢
  clear hG hP hq hTo hfR hF0 hok hnP
  go_enter Tryz.func13, Tryz.ntmps13
  go_wp2_with fail
  go_loopw [15] (fun iv wr => ∃ (j : Nat), j ≤ nP ∧ iv = .int .i64 j ∧ Below w.heap.size w wr ∧ (P.take j).all (af2 sg) = true) (fun iv _ => nP - (intOf iv).toNat)
  case atStart => exact ⟨0, Nat.zero_le _, rfl, Below.refl _ _, rfl⟩
  case round =>
    obtain ⟨j, hj, rfl, hb, hall⟩ := hrel
    have HB := hid hb; have HALL := hid hall
    by_cases hlt : j < nP
    · have hjP : j < P.length := by have := HNP.out; omega
      obtain ⟨g, o, rfl, q0, q1, q2, q3, q4, q5⟩ := (HQ.out.keep (fun g o _ hgl => hb.block g hgl)) j hjP
      obtain ⟨tm1, tm2⟩ := HP.out _ (List.getElem_mem hjP)
      have hst := all_no (f := af2 sg) hjP
      have hnx := all_next (f := af2 sg) hjP hall
      generalize P[j] = p at q0 q1 q2 q3 q4 q5 tm1 tm2 hst hnx
      have hal := alloc_below0 wr (.cells #[.string p.1.x.1, .int .i64 p.1.x.2, .slice p.1.a (lenF p.1.l) p.1.c, .string p.2.x.1, .int .i64 p.2.x.2, .slice p.2.a (lenF p.2.l) p.2.c] 28)
      have hlow := hb.trans (hal.mono hb.size)
      have hbx := Box.new wr 28 #[.string p.1.x.1, .int .i64 p.1.x.2, .slice p.1.a (lenF p.1.l) p.1.c, .string p.2.x.1, .int .i64 p.2.x.2, .slice p.2.a (lenF p.2.l) p.2.c]
      have HBX := hid hbx; have HLOW := hid hlow
      have H1 := hid fun (W : World) (hW : Below w.heap.size w W) => allFree_any sg S n cap p.1.x p.1.l p.1.a p.1.c W (HG.out.below hW) (tm1.below hW)
      have H2 := hid fun (W : World) (hW : Below w.heap.size w W) => allFree_any sg S n cap p.2.x p.2.l p.2.a p.2.c W (HG.out.below hW) (tm2.below hW)
      have z0 := hbx.c 0; have z1 := hbx.c 1; have z2 := hbx.c 2; have z3 := hbx.c 3; have z4 := hbx.c 4; have z5 := hbx.c 5
      cases h1 : afT sg p.1.x p.1.l
      · have HA := hid (hst (by unfold af2; rw [h1]; rfl))
        simp only [h1] at H1
        clear hb hall hal hlow hbx tm1 tm2 hst hnx h1
        go_wp2_with (go_at_call 27; refine (H1.out _ HLOW.out).mono ?_; rintro e w3 ⟨rfl, hb3⟩; have HB3 := hid (HLOW.out.trans (hb3.mono HLOW.out.size)); clear hb3)
        refine bodyPost_ret (results_tmp3 rfl _ _ _) rfl ?_
        exact ⟨HB3.out, .inl ⟨HA.out, rfl⟩⟩
      · cases h2 : afT sg p.2.x p.2.l
        · have HA := hid (hst (by unfold af2; rw [h1, h2]; rfl))
          simp only [h1] at H1
          simp only [h2] at H2
          clear hb hall hal hlow hbx tm1 tm2 hst hnx h1 h2
          go_wp2_with (first
            | (go_at_call 27; (with_reducible refine (H2.out _ HB3.out).mono ?_); rintro e w4 ⟨rfl, hb4⟩; have HB4 := hid (HB3.out.trans (hb4.mono HB3.out.size)); clear hb4)
            | (go_at_call 27; (with_reducible refine (H1.out _ HLOW.out).mono ?_); rintro e w3 ⟨rfl, hb3⟩; have HB3 := hid (HLOW.out.trans (hb3.mono HLOW.out.size)); have X3 := HBX.out.below hb3; have y3 := X3.c 3; have y4 := X3.c 4; have y5 := X3.c 5; clear hb3 X3))
          refine bodyPost_ret (results_tmp3 rfl _ _ _) rfl ?_
          exact ⟨HB4.out, .inl ⟨HA.out, rfl⟩⟩
        · have HA := hid (hnx (by unfold af2; rw [h1, h2]; rfl))
          simp only [h1] at H1
          simp only [h2] at H2
          clear hb hall hal hlow hbx tm1 tm2 hst hnx h1 h2
          go_wp2_with (first
            | (go_at_call 27; (with_reducible refine (H2.out _ HB3.out).mono ?_); rintro e w4 ⟨rfl, hb4⟩; have HB4 := hid (HB3.out.trans (hb4.mono HB3.out.size)); clear hb4)
            | (go_at_call 27; (with_reducible refine (H1.out _ HLOW.out).mono ?_); rintro e w3 ⟨rfl, hb3⟩; have HB3 := hid (HLOW.out.trans (hb3.mono HLOW.out.size)); have X3 := HBX.out.below hb3; have y3 := X3.c 3; have y4 := X3.c 4; have y5 := X3.c 5; clear hb3 X3))
          go_roundw
          case rel => exact ⟨j + 1, by omega, by go_num, HB4.out, HA.out⟩
          case measure => simp [intOf]; omega
    · have e1 : j = nP := by omega
      subst e1
      have hnn := HNP.out
      rw [← hnn, List.take_length] at hall
      have HA := hid hall
      have hal := alloc_below0 wr (.cells #[.slice none 0 0, .slice none 0 0] 72)
      have hsv : Sv w wr.heap.size (.slice none 0 0) (.slice none 0 0) 0 [] [] (wr.alloc (.cells #[.slice none 0 0, .slice none 0 0] 72)) := ⟨hb.trans (hal.mono hb.size), hb.size, Box.new wr 72 _, rfl, World.ownsRow_nil _ _ _ _, World.ownsRow_nil _ _ _ _, fun k hk => (by cases hk), fun b hb => (by cases hb)⟩
      have HL := hid (lay_any w wr.heap.size (.slice none 0 0) (.slice none 0 0) 0 [] [] (wr.alloc (.cells #[.slice none 0 0, .slice none 0 0] 72)) P q d hsv (fun p hp => by
        obtain ⟨t1, t2⟩ := HP.out p hp
        exact ⟨tmO_below (tmO_new t1 (fun b o hb => by unfold S0; rw [decide_eq_true hb]; rfl)) hsv.low, tmO_below (tmO_new t2 (fun b o hb => by unfold S0; rw [decide_eq_true hb]; rfl)) hsv.low⟩)
        (HQ.out.keep (fun g o _ hgl => hsv.low.block g hgl)) (fun h0 g o e => ⟨fun e2 => by
          obtain ⟨g', o', e3, c0, _⟩ := HQ.out 0 h0
          rw [e] at e3
          have e4 : g = g' := congrArg Addr.block (Option.some.inj e3)
          have h5 := World.block_lt_of_cell? w _ c0
          have h6 := hb.size
          have h7 : g' < w.heap.size := h5
          omega, fun e2 => by cases e2⟩) (by omega))
      rw [hnn] at HL
      have HSV := hid hsv
      clear hb hall hal hsv hnn
      go_wp2_with (go_at_call 28; refine HL.out.mono ?_; rintro e w3 ⟨⟨v3, rfl⟩, hf3, v1', hs3⟩; have HS3 := hid hs3; clear hf3 hs3)
      have hbB : w.heap.size ≤ wr.heap.size := HSV.out.hB
      have hI0 : FSt sg R w wr.heap.size f0 w3 := ⟨P, [], v1', _, HF0.out, by have := HS3.out; rw [Nat.zero_add, List.nil_append] at this; rw [HNP.out]; exact this, fun b hb => by cases hb⟩
      have HI0 := hid hI0
      obtain ⟨mu, hmu⟩ := count_of (fun f W => FSt sg R w wr.heap.size f W)
      have HMU := hid hmu
      generalize wr.heap.size = B at HI0 HMU HSV hbB ⊢
      clear hI0 hmu HS3 HSV HL
      go_loopw [] (fun W => ∃ f, FSt sg R w B f W) (fun W => mu W)
      case atStart => exact ⟨f0, HI0.out⟩
      case round =>
        obtain ⟨fw, hfw⟩ := hrel
        obtain ⟨⟨st, bs, v1, v2, hF, hS, hN⟩⟩ := (HMU.out wr fw hfw).1
        have HN := hid hN
        cases st with
        | nil =>
          obtain ⟨p1, cap1, rfl, _, _, _⟩ := own_any hS.r1
          have H29 := hid (take_none B cap1 p1 v2 wr hS.box)
          have HD := hid hF.done
          have HDL := hid hF.len.2
          have H30 := hid fun (W : World) (hW : Below wr.heap.size wr W) => HTO.out w B _ v2 _ _ bs W (hS.below hW) (by have := hF.len.2; rw [List.length_map] at this; exact this) hN
          clear hF hS hN hfw
          go_wp2_with (first
            | (go_at_call 29; refine H29.out.mono ?_; rintro e w4 ⟨rfl, hb4⟩; have HB4 := hid (hb4.trans ((alloc_below0 w4 (.cells #[.string ⟨#[]⟩, .int .i64 0, .slice none 0 0, .string ⟨#[]⟩, .int .i64 0, .slice none 0 0] 28)).mono hb4.size)); clear hb4)
            | (go_at_call 30; refine (H30.out _ HB4.out).mono ?_; rintro e w5 ⟨pp, cc, ms, rfl, hbi, hpm, hso, hb5⟩; have HX := hid (show Below w.heap.size w w5 ∧ BindsAt w5 pp ms.length ms ∧ List.Perm ms (bs.map btn) ∧ ms.Pairwise (fun x y => 0 ≤ Lib.compareBytes y.1.data.toList x.1.data.toList) from ⟨hb5, hbi, hpm, hso⟩); clear hbi hpm hso hb5))
          refine bodyPost_ret (results_tmp3 rfl _ _ _) rfl ?_
          exact ⟨HX.out.1, .inr ⟨HA.out, f0, R, HFR.out, .inr (.inr ⟨bs.map btn, pp, cc, ms, HD.out, rfl, HX.out.2.1, HX.out.2.2.1, HX.out.2.2.2, HDL.out⟩)⟩⟩
        | cons p r =>
          have hS' : Sv w B v1 v2 (r.length + 1) (flatK r.reverse ++ [p.1, p.2]) bs wr := by
            have := hS
            rw [List.length_cons, List.reverse_cons, flatK_app] at this
            exact this
          have hlen := hF.len
          rw [List.length_map, List.length_map, List.length_cons] at hlen
          have hsd := hF.sides
          have H29 := hid (takeS_any w B v1 v2 r.length (flatK r.reverse) p.1 p.2 bs wr hS' (by omega))
          have HS := hid hS'
          have HTA := hid (hS'.te p.1 (List.mem_append_right _ (by simp)))
          have HTB := hid (hS'.te p.2 (List.mem_append_right _ (by simp)))
          have hn1 : nodesF p.1.l ≤ 1048576 := hsd.2.1
          have hn2 : nodesF p.2.l ≤ 1048576 := hsd.2.2.1
          have HLOOK := hid fun (W : World) {v1' : Value} (hs : Sv w B v1' v2 r.length (flatK r.reverse) bs W) (ht1 : TmO (S0 w.heap.size) W p.1.x p.1.a p.1.c p.1.l) (ht2 : TmO (S0 w.heap.size) W p.2.x p.2.a p.2.c p.2.l) => lookS_any S n cap sg p.1.tn p.2.tn p.1.a p.2.a p.1.c p.2.c (offW (S0 w.heap.size) W) W (HG.out.below hs.low) ht1 ht2 (sub_off _ _) hn1 hn2
          have hMe : ∀ k ∈ flatK r.reverse, nodesF k.l ≤ 1048576 := fun k hk => by
            obtain ⟨q', hq', hk'⟩ := List.mem_flatMap.1 hk
            have h5 := hsd.2.2.2 (tn2 q') (List.mem_map_of_mem (List.mem_reverse.1 hq'))
            simp only [List.mem_cons, List.not_mem_nil, or_false] at hk'
            rcases hk' with rfl | rfl
            · exact h5.1
            · exact h5.2
          have hMb : ∀ b ∈ bs, nodesF b.2.l ≤ 1048576 := fun b hb => hF.bsz (btn b) (List.mem_map_of_mem hb)
          have HME := hid hMe; have HMB := hid hMb
          have hacts := look_acts sg p.1.tn p.2.tn
          have hbv : (lookP sg p.1.tn p.2.tn).act = 3 → (lookP sg p.1.tn p.2.tn).bv.size ≤ maxLen ∧ nodesF (lookP sg p.1.tn p.2.tn).t.2 ≤ 1048576 := fun h3 => by
            obtain ⟨_, _, _, h4⟩ := look_set hsd.1.1 hsd.1.2 h3
            rcases h4 with ⟨e1, e2, _⟩ | ⟨e1, e2, _⟩
            · have e1' : (lookP sg p.1.tn p.2.tn).bv = p.1.tn.1.1 := e1
              have e2' : (lookP sg p.1.tn p.2.tn).t = p.2.tn := e2
              rw [e1', e2']
              exact ⟨HTA.out.sizes.name, hn2⟩
            · have e1' : (lookP sg p.1.tn p.2.tn).bv = p.2.tn.1.1 := e1
              have e2' : (lookP sg p.1.tn p.2.tn).t = p.1.tn := e2
              rw [e1', e2']
              exact ⟨HTB.out.sizes.name, hn1⟩
          have hfail : (lookP sg p.1.tn p.2.tn).act = 2 → R = (1, []) := hF.fail
          have hgrown : (lookP sg p.1.tn p.2.tn).act = 3 → roomS (lookP sg p.1.tn p.2.tn).bv (lookP sg p.1.tn p.2.tn).t (r.map tn2) (bs.map btn) = false → R = (2, []) := hF.grown
          have hset : (lookP sg p.1.tn p.2.tn).act = 3 → roomS (lookP sg p.1.tn p.2.tn).bv (lookP sg p.1.tn p.2.tn).t (r.map tn2) (bs.map btn) = true → ∃ g, g < mu wr ∧ FInv sg R g (putS (lookP sg p.1.tn p.2.tn).bv (lookP sg p.1.tn p.2.tn).t (r.map tn2)) (putB (lookP sg p.1.tn p.2.tn).bv (lookP sg p.1.tn p.2.tn).t (bs.map btn) ++ [((lookP sg p.1.tn p.2.tn).bv, (lookP sg p.1.tn p.2.tn).t)]) := hF.set
          have hparts : (lookP sg p.1.tn p.2.tn).act = 4 → ∃ g, g < mu wr ∧ FInv sg R g ((lookP sg p.1.tn p.2.tn).ls ++ r.map tn2) (bs.map btn) := hF.parts
          have hnext : (lookP sg p.1.tn p.2.tn).act ≠ 2 → (lookP sg p.1.tn p.2.tn).act ≠ 3 → (lookP sg p.1.tn p.2.tn).act ≠ 4 → ∃ g, g < mu wr ∧ FInv sg R g (r.map tn2) (bs.map btn) := hF.next
          generalize lookP sg p.1.tn p.2.tn = V at HLOOK hacts hbv hfail hgrown hset hparts hnext
          obtain ⟨act, bv, tt, ls, sym⟩ := V
          have HBV := hid hbv; have HFAIL := hid hfail; have HGROWN := hid hgrown; have HSET := hid hset; have HPARTS := hid hparts; have HNEXT := hid hnext
          clear hF hS hS' hN hfw hsd hMe hMb hbv hfail hgrown hset hparts hnext
          dsimp only at *
          rcases hacts with rfl | rfl | rfl | rfl | rfl
          · go_wp2_with (first
              | (go_at_call 29; refine H29.out.mono ?_; rintro e w4 ⟨rfl, ⟨v1', hs4⟩, hf4⟩; have hal := alloc_below0 w4 (.cells #[.string p.1.x.1, .int .i64 p.1.x.2, .slice p.1.a (lenF p.1.l) p.1.c, .string p.2.x.1, .int .i64 p.2.x.2, .slice p.2.a (lenF p.2.l) p.2.c] 28); have HS4 := hid (hs4.below hal); have HT1 := tmO_below (tmO_fr HTA.out hf4 (fun b o hb ho => (HS.out.hid1 (.inr hb) ho).2)) hal; have HT2 := tmO_below (tmO_fr HTB.out hf4 (fun b o hb ho => (HS.out.hid1 (.inr hb) ho).2)) hal; have HLK := hid (HLOOK.out _ HS4.out HT1 HT2); have X4 := Box.new w4 28 #[.string p.1.x.1, .int .i64 p.1.x.2, .slice p.1.a (lenF p.1.l) p.1.c, .string p.2.x.1, .int .i64 p.2.x.2, .slice p.2.a (lenF p.2.l) p.2.c]; have z0 := X4.c 0; have z1 := X4.c 1; have z2 := X4.c 2; have z3 := X4.c 3; have z4 := X4.c 4; have z5 := X4.c 5; clear hs4 hf4 hal HT1 HT2 X4)
              | (go_at_call 23; refine HLK.out.mono ?_; rintro e w5 ⟨⟨v5, rfl, hlk⟩, hb5⟩; obtain ⟨tk, ks, la, lc, rfl, htk, htt, hks, hkt, hrow⟩ := hlk.is; unfold wayC; have hal5 := alloc_below0 w5 (.cells #[.int .i64 1, .string bv, .string tk.x.1, .int .i64 tk.x.2, .slice tk.a (lenF tk.l) tk.c, .slice la ls.length lc, .int .i64 sym] 41); have hb6 := hb5.trans (hal5.mono hb5.size); have HS6 := hid (HS4.out.below hb6); have HB6 := hid hb6; have HAL5 := hid hal5; have HTK := hid htk; have HTT := hid htt; have HKS := hid hks; have HKT := hid hkt; have HROW := hid hrow; have X6 := Box.new w5 41 #[.int .i64 1, .string bv, .string tk.x.1, .int .i64 tk.x.2, .slice tk.a (lenF tk.l) tk.c, .slice la ls.length lc, .int .i64 sym]; have v0 := X6.c 0; have v1c := X6.c 1; have v2c := X6.c 2; have v3c := X6.c 3; have v4c := X6.c 4; have v5c := X6.c 5; have v6c := X6.c 6; clear hlk hb5 hal5 hb6 htk htt hks hkt hrow X6 z0 z1 z2 z3 z4 z5))
            obtain ⟨g, hg, hfi⟩ := HNEXT.out (by decide) (by decide) (by decide)
            have HFS : Hid (FSt sg R w B g (w5.alloc (.cells #[.int .i64 1, .string bv, .string tk.x.1, .int .i64 tk.x.2, .slice tk.a (lenF tk.l) tk.c, .slice la ls.length lc, .int .i64 sym] 41))) := hid ⟨r, bs, _, _, hfi, HS6.out, HN.out⟩
            have HLT := hid hg
            clear hfi hg
            go_roundw
            case rel => exact ⟨g, HFS.out⟩
            case measure => exact Nat.lt_of_le_of_lt (HMU.out _ g HFS.out).2 HLT.out
          · go_wp2_with (first
              | (go_at_call 29; refine H29.out.mono ?_; rintro e w4 ⟨rfl, ⟨v1', hs4⟩, hf4⟩; have hal := alloc_below0 w4 (.cells #[.string p.1.x.1, .int .i64 p.1.x.2, .slice p.1.a (lenF p.1.l) p.1.c, .string p.2.x.1, .int .i64 p.2.x.2, .slice p.2.a (lenF p.2.l) p.2.c] 28); have HS4 := hid (hs4.below hal); have HT1 := tmO_below (tmO_fr HTA.out hf4 (fun b o hb ho => (HS.out.hid1 (.inr hb) ho).2)) hal; have HT2 := tmO_below (tmO_fr HTB.out hf4 (fun b o hb ho => (HS.out.hid1 (.inr hb) ho).2)) hal; have HLK := hid (HLOOK.out _ HS4.out HT1 HT2); have X4 := Box.new w4 28 #[.string p.1.x.1, .int .i64 p.1.x.2, .slice p.1.a (lenF p.1.l) p.1.c, .string p.2.x.1, .int .i64 p.2.x.2, .slice p.2.a (lenF p.2.l) p.2.c]; have z0 := X4.c 0; have z1 := X4.c 1; have z2 := X4.c 2; have z3 := X4.c 3; have z4 := X4.c 4; have z5 := X4.c 5; clear hs4 hf4 hal HT1 HT2 X4)
              | (go_at_call 23; refine HLK.out.mono ?_; rintro e w5 ⟨⟨v5, rfl, hlk⟩, hb5⟩; obtain ⟨tk, ks, la, lc, rfl, htk, htt, hks, hkt, hrow⟩ := hlk.is; unfold wayC; have hal5 := alloc_below0 w5 (.cells #[.int .i64 2, .string bv, .string tk.x.1, .int .i64 tk.x.2, .slice tk.a (lenF tk.l) tk.c, .slice la ls.length lc, .int .i64 sym] 41); have hb6 := hb5.trans (hal5.mono hb5.size); have HS6 := hid (HS4.out.below hb6); have HB6 := hid hb6; have HAL5 := hid hal5; have HTK := hid htk; have HTT := hid htt; have HKS := hid hks; have HKT := hid hkt; have HROW := hid hrow; have X6 := Box.new w5 41 #[.int .i64 2, .string bv, .string tk.x.1, .int .i64 tk.x.2, .slice tk.a (lenF tk.l) tk.c, .slice la ls.length lc, .int .i64 sym]; have v0 := X6.c 0; have v1c := X6.c 1; have v2c := X6.c 2; have v3c := X6.c 3; have v4c := X6.c 4; have v5c := X6.c 5; have v6c := X6.c 6; clear hlk hb5 hal5 hb6 htk htt hks hkt hrow X6 z0 z1 z2 z3 z4 z5))
            refine bodyPost_ret (results_tmp3 rfl _ _ _) rfl ?_
            exact ⟨HS6.out.low, .inr ⟨HA.out, f0, R, HFR.out, .inl ⟨HFAIL.out trivial, rfl⟩⟩⟩
          · go_upto_region 17 with (first
              | (go_at_call 29; refine H29.out.mono ?_; rintro e w4 ⟨rfl, ⟨v1', hs4⟩, hf4⟩; have hal := alloc_below0 w4 (.cells #[.string p.1.x.1, .int .i64 p.1.x.2, .slice p.1.a (lenF p.1.l) p.1.c, .string p.2.x.1, .int .i64 p.2.x.2, .slice p.2.a (lenF p.2.l) p.2.c] 28); have HS4 := hid (hs4.below hal); have HT1 := tmO_below (tmO_fr HTA.out hf4 (fun b o hb ho => (HS.out.hid1 (.inr hb) ho).2)) hal; have HT2 := tmO_below (tmO_fr HTB.out hf4 (fun b o hb ho => (HS.out.hid1 (.inr hb) ho).2)) hal; have HLK := hid (HLOOK.out _ HS4.out HT1 HT2); have X4 := Box.new w4 28 #[.string p.1.x.1, .int .i64 p.1.x.2, .slice p.1.a (lenF p.1.l) p.1.c, .string p.2.x.1, .int .i64 p.2.x.2, .slice p.2.a (lenF p.2.l) p.2.c]; have z0 := X4.c 0; have z1 := X4.c 1; have z2 := X4.c 2; have z3 := X4.c 3; have z4 := X4.c 4; have z5 := X4.c 5; clear hs4 hf4 hal HT1 HT2 X4)
              | (go_at_call 23; refine HLK.out.mono ?_; rintro e w5 ⟨⟨v5, rfl, hlk⟩, hb5⟩; obtain ⟨tk, ks, la, lc, rfl, htk, htt, hks, hkt, hrow⟩ := hlk.is; unfold wayC; have hal5 := alloc_below0 w5 (.cells #[.int .i64 3, .string bv, .string tk.x.1, .int .i64 tk.x.2, .slice tk.a (lenF tk.l) tk.c, .slice la ls.length lc, .int .i64 sym] 41); have hb6 := hb5.trans (hal5.mono hb5.size); have HS6 := hid (HS4.out.below hb6); have HB6 := hid hb6; have HAL5 := hid hal5; have HTK := hid htk; have HTT := hid htt; have HKS := hid hks; have HKT := hid hkt; have HROW := hid hrow; have X6 := Box.new w5 41 #[.int .i64 3, .string bv, .string tk.x.1, .int .i64 tk.x.2, .slice tk.a (lenF tk.l) tk.c, .slice la ls.length lc, .int .i64 sym]; have v0 := X6.c 0; have v1c := X6.c 1; have v2c := X6.c 2; have v3c := X6.c 3; have v4c := X6.c 4; have v5c := X6.c 5; have v6c := X6.c 6; clear hlk hb5 hal5 hb6 htk htt hks hkt hrow X6 z0 z1 z2 z3 z4 z5))
            have htn : (tk.x, tk.l) = tt := HTK.out
            subst htn
            obtain ⟨hz1, hz2⟩ := HBV.out trivial
            have HST := hid (set_any w B _ v2 r.length (flatK r.reverse) bs (w5.alloc (.cells #[.int .i64 3, .string bv, .string tk.x.1, .int .i64 tk.x.2, .slice tk.a (lenF tk.l) tk.c, .slice la ls.length lc, .int .i64 sym] 41)) bv (tk.x, tk.l) tk.a tk.c HS6.out (tmO_below (show TmO (S0 w.heap.size) _ tk.x tk.a tk.c tk.l from HTT.out) HB6.out) hz2 (by omega) (by omega) HME.out HMB.out)
            rw [room_eqs] at HST
            cases hrm : roomS bv (tk.x, tk.l) (r.map tn2) (bs.map btn)
            · have HGR := hid (HGROWN.out trivial hrm)
              simp only [hrm] at HST
              clear hrm
              try dsimp only at HST
              go_wp2_with (go_at_call 31; refine HST.out.mono ?_; rintro e w7 ⟨rfl, hb7, _⟩; have HB7 := hid hb7; clear hb7)
              refine bodyPost_ret (results_tmp3 rfl _ _ _) rfl ?_
              exact ⟨HB7.out, .inr ⟨HA.out, f0, R, HFR.out, .inr (.inl ⟨HGR.out, rfl⟩)⟩⟩
            · have HSE := hid (HSET.out trivial hrm)
              simp only [hrm] at HST
              clear hrm
              try dsimp only at HST
              go_wp2_with (go_at_call 31; refine HST.out.mono ?_; rintro e w7 ⟨rfl, hb7, hr7⟩; have HR7 := hid (hr7 trivial); clear hb7 hr7)
              obtain ⟨v2', es', bs', hm1, hm2, hs7⟩ := HR7.out
              obtain ⟨st', e1, e2, e3⟩ := put_eqs hm1
              obtain ⟨g, hg, hfi⟩ := HSE.out
              have HFS : Hid (FSt sg R w B g w7) := hid ⟨st', bs', _, v2', by rw [e2, put_binds hm2]; exact hfi, by rw [← e1, e3]; exact hs7, names_put hm2 HN.out hz1⟩
              have HLT := hid hg
              clear hfi hg hs7 hm1 hm2 e1 e2 e3
              go_roundw
              case rel => exact ⟨g, HFS.out⟩
              case measure => exact Nat.lt_of_le_of_lt (HMU.out _ g HFS.out).2 HLT.out
          · go_upto_region 20 with (first
              | (go_at_call 29; refine H29.out.mono ?_; rintro e w4 ⟨rfl, ⟨v1', hs4⟩, hf4⟩; have hal := alloc_below0 w4 (.cells #[.string p.1.x.1, .int .i64 p.1.x.2, .slice p.1.a (lenF p.1.l) p.1.c, .string p.2.x.1, .int .i64 p.2.x.2, .slice p.2.a (lenF p.2.l) p.2.c] 28); have HS4 := hid (hs4.below hal); have HT1 := tmO_below (tmO_fr HTA.out hf4 (fun b o hb ho => (HS.out.hid1 (.inr hb) ho).2)) hal; have HT2 := tmO_below (tmO_fr HTB.out hf4 (fun b o hb ho => (HS.out.hid1 (.inr hb) ho).2)) hal; have HLK := hid (HLOOK.out _ HS4.out HT1 HT2); have X4 := Box.new w4 28 #[.string p.1.x.1, .int .i64 p.1.x.2, .slice p.1.a (lenF p.1.l) p.1.c, .string p.2.x.1, .int .i64 p.2.x.2, .slice p.2.a (lenF p.2.l) p.2.c]; have z0 := X4.c 0; have z1 := X4.c 1; have z2 := X4.c 2; have z3 := X4.c 3; have z4 := X4.c 4; have z5 := X4.c 5; clear hs4 hf4 hal HT1 HT2 X4)
              | (go_at_call 23; refine HLK.out.mono ?_; rintro e w5 ⟨⟨v5, rfl, hlk⟩, hb5⟩; obtain ⟨tk, ks, la, lc, rfl, htk, htt, hks, hkt, hrow⟩ := hlk.is; unfold wayC; have hal5 := alloc_below0 w5 (.cells #[.int .i64 4, .string bv, .string tk.x.1, .int .i64 tk.x.2, .slice tk.a (lenF tk.l) tk.c, .slice la ls.length lc, .int .i64 sym] 41); have hb6 := hb5.trans (hal5.mono hb5.size); have HS6 := hid (HS4.out.below hb6); have HB6 := hid hb6; have HAL5 := hid hal5; have HTK := hid htk; have HTT := hid htt; have HKS := hid hks; have HKT := hid hkt; have HROW := hid hrow; have X6 := Box.new w5 41 #[.int .i64 4, .string bv, .string tk.x.1, .int .i64 tk.x.2, .slice tk.a (lenF tk.l) tk.c, .slice la ls.length lc, .int .i64 sym]; have v0 := X6.c 0; have v1c := X6.c 1; have v2c := X6.c 2; have v3c := X6.c 3; have v4c := X6.c 4; have v5c := X6.c 5; have v6c := X6.c 6; clear hlk hb5 hal5 hb6 htk htt hks hkt hrow X6 z0 z1 z2 z3 z4 z5))
            have hkl : ks.length = 2 * ls.length := by
              have := congrArg List.length HKS.out
              rwa [List.length_map, flat_len] at this
            obtain ⟨Q, hQ1, hQ2⟩ := unflat ls.length ks hkl
            have hQt : Q.map tn2 = ls := flatL_inj (by rw [← flatK_tn, ← hQ1]; exact HKS.out)
            obtain ⟨g, hg, hfi⟩ := HPARTS.out trivial
            have hln2 := hfi.len.1
            rw [List.length_append, List.length_map, ← hQ2] at hln2
            have heq : EqsAt (w5.alloc (.cells #[.int .i64 4, .string bv, .string tk.x.1, .int .i64 tk.x.2, .slice tk.a (lenF tk.l) tk.c, .slice la ls.length lc, .int .i64 sym] 41)) la Q := by
              rcases HROW.out with ⟨h1, h2, h3⟩ | ⟨g4, h1, h2, h3, h4⟩
              · intro i hi
                have h5 : ls.length = 0 := by rw [show ls = [] from h1]; rfl
                omega
              · subst h1
                exact eqs_row (h4.below HAL5.out) hQ1
            have HLY := hid (lay_any w B _ v2 r.length (flatK r.reverse) bs (w5.alloc (.cells #[.int .i64 4, .string bv, .string tk.x.1, .int .i64 tk.x.2, .slice tk.a (lenF tk.l) tk.c, .slice la ls.length lc, .int .i64 sym] 41)) Q la lc HS6.out (fun q' hq' => by
                have hm1 : q'.1 ∈ ks := by rw [hQ1]; exact List.mem_flatMap.2 ⟨q', hq', by simp⟩
                have hm2 : q'.2 ∈ ks := by rw [hQ1]; exact List.mem_flatMap.2 ⟨q', hq', by simp⟩
                exact ⟨tmO_below (show TmO (S0 w.heap.size) _ _ _ _ _ from HKT.out _ hm1) HB6.out, tmO_below (show TmO (S0 w.heap.size) _ _ _ _ _ from HKT.out _ hm2) HB6.out⟩) heq (fun h0 g4 o4 e4 => by
                rcases HROW.out with ⟨_, h2, _⟩ | ⟨g5, h1, h2, _⟩
                · rw [h2] at e4; cases e4
                · rw [h1] at e4
                  have e5 : g5 = g4 := congrArg Addr.block (Option.some.inj e4)
                  have h6 := HS4.out.box.lt
                  refine ⟨by omega, fun e6 => ?_⟩
                  have := (HS4.out.r1.lt g4 e6).2
                  omega) (by omega))
            rw [hQ2] at HLY
            have HQT := hid hQt; have HQ2 := hid hQ2; have HFI := hid hfi; have HLT := hid hg
            clear heq hQt hQ2 hfi hg hkl hln2
            go_wp2_with (go_at_call 28; refine HLY.out.mono ?_; rintro e w7 ⟨⟨v7, rfl⟩, _, v1'', hs7⟩; have HS7 := hid hs7; clear hs7)
            have HFS : Hid (FSt sg R w B g w7) := hid ⟨Q ++ r, bs, v1'', v2, by rw [List.map_append, HQT.out]; exact HFI.out, by
              rw [List.length_append, HQ2.out, List.reverse_append, flatK_app, Nat.add_comm]
              exact HS7.out, HN.out⟩
            go_roundw
            case rel => exact ⟨g, HFS.out⟩
            case measure => exact Nat.lt_of_le_of_lt (HMU.out _ g HFS.out).2 HLT.out
          · go_wp2_with (first
              | (go_at_call 29; refine H29.out.mono ?_; rintro e w4 ⟨rfl, ⟨v1', hs4⟩, hf4⟩; have hal := alloc_below0 w4 (.cells #[.string p.1.x.1, .int .i64 p.1.x.2, .slice p.1.a (lenF p.1.l) p.1.c, .string p.2.x.1, .int .i64 p.2.x.2, .slice p.2.a (lenF p.2.l) p.2.c] 28); have HS4 := hid (hs4.below hal); have HT1 := tmO_below (tmO_fr HTA.out hf4 (fun b o hb ho => (HS.out.hid1 (.inr hb) ho).2)) hal; have HT2 := tmO_below (tmO_fr HTB.out hf4 (fun b o hb ho => (HS.out.hid1 (.inr hb) ho).2)) hal; have HLK := hid (HLOOK.out _ HS4.out HT1 HT2); have X4 := Box.new w4 28 #[.string p.1.x.1, .int .i64 p.1.x.2, .slice p.1.a (lenF p.1.l) p.1.c, .string p.2.x.1, .int .i64 p.2.x.2, .slice p.2.a (lenF p.2.l) p.2.c]; have z0 := X4.c 0; have z1 := X4.c 1; have z2 := X4.c 2; have z3 := X4.c 3; have z4 := X4.c 4; have z5 := X4.c 5; clear hs4 hf4 hal HT1 HT2 X4)
              | (go_at_call 23; refine HLK.out.mono ?_; rintro e w5 ⟨⟨v5, rfl, hlk⟩, hb5⟩; obtain ⟨tk, ks, la, lc, rfl, htk, htt, hks, hkt, hrow⟩ := hlk.is; unfold wayC; have hal5 := alloc_below0 w5 (.cells #[.int .i64 5, .string bv, .string tk.x.1, .int .i64 tk.x.2, .slice tk.a (lenF tk.l) tk.c, .slice la ls.length lc, .int .i64 sym] 41); have hb6 := hb5.trans (hal5.mono hb5.size); have HS6 := hid (HS4.out.below hb6); have HB6 := hid hb6; have HAL5 := hid hal5; have HTK := hid htk; have HTT := hid htt; have HKS := hid hks; have HKT := hid hkt; have HROW := hid hrow; have X6 := Box.new w5 41 #[.int .i64 5, .string bv, .string tk.x.1, .int .i64 tk.x.2, .slice tk.a (lenF tk.l) tk.c, .slice la ls.length lc, .int .i64 sym]; have v0 := X6.c 0; have v1c := X6.c 1; have v2c := X6.c 2; have v3c := X6.c 3; have v4c := X6.c 4; have v5c := X6.c 5; have v6c := X6.c 6; clear hlk hb5 hal5 hb6 htk htt hks hkt hrow X6 z0 z1 z2 z3 z4 z5))
            obtain ⟨g, hg, hfi⟩ := HNEXT.out (by decide) (by decide) (by decide)
            have HFS : Hid (FSt sg R w B g (w5.alloc (.cells #[.int .i64 5, .string bv, .string tk.x.1, .int .i64 tk.x.2, .slice tk.a (lenF tk.l) tk.c, .slice la ls.length lc, .int .i64 sym] 41))) := hid ⟨r, bs, _, _, hfi, HS6.out, HN.out⟩
            have HLT := hid hg
            clear hfi hg
            go_roundw
            case rel => exact ⟨g, HFS.out⟩
            case measure => exact Nat.lt_of_le_of_lt (HMU.out _ g HFS.out).2 HLT.out
end Go.Proofs.YtfnfbljijkjkjaaGreat
