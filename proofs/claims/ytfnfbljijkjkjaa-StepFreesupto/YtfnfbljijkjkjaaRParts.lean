/- What the document's Parts answers, of any term. -/
import Derived.Test.YtfnfbljijkjkjaaRLst
namespace Go.Proofs.Ytfnfbljijkjkjaa
open Go.RowKit Go.Deep

set_option maxRecDepth 100000 in
/-- A list of one new term. -/
theorem Lst.one {B : Nat} {W : World} (k : Kv) (hB : B ≤ W.heap.size) (h : OwnTm false (fun q => B ≤ q) W k.x k.a k.c k.l) : Lst B (W.alloc (.cells #[.string k.x.1, .int .i64 k.x.2, .slice k.a (lenF k.l) k.c] 26)) (.slice (some ⟨W.heap.size, 0, none⟩) 1 1) [k] := by
  refine ⟨⟨rfl, .inr ⟨W.heap.size, 1, _, rfl, hB, World.alloc_heap_new W _, Nat.le_refl _, by decide, rfl, rfl⟩⟩, fun k' hk => ?_⟩
  simp only [List.mem_singleton] at hk
  subst hk
  have h2 : OwnTm false (fun q => B ≤ q ∧ some q ≠ some W.heap.size) W k'.x k'.a k'.c k'.l := h.mono (fun q hq hp => ⟨hp, fun e => by cases e; omega⟩)
  exact h2.below ((Below.refl _ _).alloc (Nat.le_refl _) _)

set_option maxRecDepth 100000 in
set_option maxHeartbeats 2000000 in
theorem parts_any (a : Option Addr) (n cap : Nat) (l : List Sym) (f : Int) (t : Tn) (ta : Option Addr) (tc : Nat) (w : World) (hS : SigAt w a n l) (hT : TmAt w t.1 ta tc t.2) :
    Calls Try.prog 81 #[.slice a n cap, .int .i64 f, .agg #[.string t.1.1, .int .i64 t.1.2, .slice ta (lenF t.2) tc]] w fun e w' => ∃ v ks, e = .returned v ∧ Lst w.heap.size w' v ks ∧ (ks = [] → v = .slice none 0 0) ∧ ks.map Kv.tn = partsN (sgOf l) f t ∧ Below w.heap.size w w' := by
  obtain ⟨⟨nm, sy⟩, F⟩ := t
  have HS : Hid (SigAt w a n l) := hS
  have HT : Hid (TmAt w (nm, sy) ta tc F) := hT
  have hb := TBox.new w (nm, sy) ta (lenF F) tc
  have hlow : Hid (Below w.heap.size w (w.alloc (.cells #[.string nm, .int .i64 sy, .slice ta (lenF F) tc] 26))) := (Below.refl _ w).alloc (Nat.le_refl _) _
  have HJ : Hid (∀ W, Below w.heap.size w W → Calls Try.prog 67 #[.slice a n cap, .int .i64 f] W fun e w' => e = .returned (.bool (joinsAt l f)) ∧ Below W.heap.size W w') := fun W hW => joins_any a n cap l f W (HS.out.below hW)
  have HU : Hid (∀ W, Below w.heap.size w W → Calls Try.prog 82 #[.slice a n cap, .int .i64 f] W fun e w' => UnitRet l f e ∧ w' = W) := fun W hW => runit_any a n cap l f W (HS.out.below hW)
  have HC : Hid (∀ u W, Calls Try.prog 104 #[.agg #[.string nm, .int .i64 sy, .slice ta (lenF F) tc], .int .i64 u] W fun e w' => e = .returned (.bool (isConst ((nm, sy), F) u)) ∧ Below W.heap.size W w') := fun u W => constant_any ((nm, sy), F) ta tc u W (by have := HT.out.sizes.few; show lenF F ≤ _; omega)
  have HL : Hid (∀ W, Below w.heap.size w W → Calls Try.prog 29 #[.agg #[.string nm, .int .i64 sy, .slice ta (lenF F) tc]] W fun e w' => ∃ a' c', e = .returned (.agg #[.string nm, .int .i64 sy, .slice a' (lenF F) c']) ∧ RowTm W.heap.size w' (nm, sy) a' c' F ∧ Below W.heap.size W w') := fun W hW => rclone_any (nm, sy) F ta tc W (HT.out.below hW)
  have HK : Hid (∀ W, Below w.heap.size w W → Calls Try.prog 105 #[.slice ta (lenF F) tc] W fun e w' => ∃ v ks, e = .returned v ∧ Lst W.heap.size w' v ks ∧ (ks = [] → v = .slice none 0 0) ∧ ks.map Kv.tn = kidsL F ∧ Below W.heap.size W w') := fun W hW => clones_any ta F tc W (HT.out.args.below hW) (by have := HT.out.sizes.few; omega)
  clear hS hT
  cases hj : joinsAt l f
  · have e : Hid (partsN (sgOf l) f ((nm, sy), F) = [((nm, sy), F)]) := by show _ = _; unfold partsN; rw [if_pos (show (sgOf l).joins f = false from hj)]
    go_enter Try.func81, Try.ntmps81
    rw [hj] at HJ
    go_wp2_with (first
      | (go_at_call 67; refine (HJ.out _ hlow.out).mono ?_; rintro e w1 ⟨rfl, hb1⟩; have HB1 : Hid (Below w.heap.size w w1) := hlow.out.trans (hb1.mono (by simp)); have hbx := hb.below hb1; have HBX : Hid (TBox w1 w.heap.size (nm, sy) ta (lenF F) tc) := hbx; have c0 := hbx.c0; have c1 := hbx.c1; have c2 := hbx.c2; clear hb1 hbx)
      | (go_at_call 29; refine (HL.out _ HB1.out).mono ?_; rintro e w2 ⟨a', c', rfl, ho2, hb2⟩; have HO2 : Hid (RowTm w1.heap.size w2 (nm, sy) a' c' F) := ho2; have HB2 : Hid (Below w.heap.size w w2) := HB1.out.trans (hb2.mono HB1.out.size); clear ho2 hb2))
    go_ret
    refine ⟨_, [⟨(nm, sy), F, a', c'⟩], rfl, Lst.one ⟨(nm, sy), F, a', c'⟩ HB2.out.size (HO2.out.own.mono (fun q _ hq => Nat.le_trans HB1.out.size hq)), (fun h => by simp at h), by rw [e.out]; rfl, HB2.out.alloc HB2.out.size _⟩
  · have hj' : ¬ (sgOf l).joins f = false := by show ¬ joinsAt l f = false; rw [hj]; simp
    have rest : isUn (sgOf l) f ((nm, sy), F) = false → partsN (sgOf l) f ((nm, sy), F) = if headed f ((nm, sy), F) then kidsL F else [((nm, sy), F)] := fun h => by unfold partsN; rw [if_neg hj', if_neg (by rw [h]; simp)]
    have REST : Hid (isUn (sgOf l) f ((nm, sy), F) = false → partsN (sgOf l) f ((nm, sy), F) = if headed f ((nm, sy), F) then kidsL F else [((nm, sy), F)]) := rest
    have NONE : Hid (isUn (sgOf l) f ((nm, sy), F) = true → partsN (sgOf l) f ((nm, sy), F) = []) := fun h => by unfold partsN; rw [if_neg hj', if_pos h]
    clear rest hj'
    obtain ⟨ui, hui⟩ : ∃ ui, unitI l f = ui := ⟨_, rfl⟩
    cases huo : unitOk l f
    · have hun : Hid (isUn (sgOf l) f ((nm, sy), F) = false) := by show _ = _; unfold unitOk at huo; cases hq : unitAt l f with | none => simp [isUn, sgOf, hq] | some i => rw [hq] at huo; simp at huo
      cases hn : nm.toList.isEmpty
      · have e : Hid (partsN (sgOf l) f ((nm, sy), F) = [((nm, sy), F)]) := by show _ = _; rw [REST.out hun.out]; unfold headed noName; rw [hn]; simp
        go_enter Try.func81, Try.ntmps81
        rw [hj] at HJ
        go_wp2_with (first
          | (go_at_call 67; refine (HJ.out _ hlow.out).mono ?_; rintro e w1 ⟨rfl, hb1⟩; have HB1 : Hid (Below w.heap.size w w1) := hlow.out.trans (hb1.mono (by simp)); have hbx := hb.below hb1; have HBX : Hid (TBox w1 w.heap.size (nm, sy) ta (lenF F) tc) := hbx; have c0 := hbx.c0; have c1 := hbx.c1; have c2 := hbx.c2; clear hb1 hbx)
          | (go_at_call 82; refine (HU.out _ HB1.out).mono ?_; rintro e w9 ⟨he, hw9⟩; unfold UnitRet at he; rw [hui, huo] at he; subst he; rw [hw9]; clear hw9)
          | (go_at_call 29; refine (HL.out _ HB1.out).mono ?_; rintro e w2 ⟨a', c', rfl, ho2, hb2⟩; have HO2 : Hid (RowTm w1.heap.size w2 (nm, sy) a' c' F) := ho2; have HB2 : Hid (Below w.heap.size w w2) := HB1.out.trans (hb2.mono HB1.out.size); clear ho2 hb2))
        go_ret
        refine ⟨_, [⟨(nm, sy), F, a', c'⟩], rfl, Lst.one ⟨(nm, sy), F, a', c'⟩ HB2.out.size (HO2.out.own.mono (fun q _ hq => Nat.le_trans HB1.out.size hq)), (fun h => by simp at h), by rw [e.out]; rfl, HB2.out.alloc HB2.out.size _⟩
      · cases hs : (sy == f)
        · have e : Hid (partsN (sgOf l) f ((nm, sy), F) = [((nm, sy), F)]) := by show _ = _; rw [REST.out hun.out]; unfold headed; rw [hs]; simp
          go_enter Try.func81, Try.ntmps81
          rw [hj] at HJ
          go_wp2_with (first
            | (go_at_call 67; refine (HJ.out _ hlow.out).mono ?_; rintro e w1 ⟨rfl, hb1⟩; have HB1 : Hid (Below w.heap.size w w1) := hlow.out.trans (hb1.mono (by simp)); have hbx := hb.below hb1; have HBX : Hid (TBox w1 w.heap.size (nm, sy) ta (lenF F) tc) := hbx; have c0 := hbx.c0; have c1 := hbx.c1; have c2 := hbx.c2; clear hb1 hbx)
            | (go_at_call 82; refine (HU.out _ HB1.out).mono ?_; rintro e w9 ⟨he, hw9⟩; unfold UnitRet at he; rw [hui, huo] at he; subst he; rw [hw9]; clear hw9)
            | (go_at_call 29; refine (HL.out _ HB1.out).mono ?_; rintro e w2 ⟨a', c', rfl, ho2, hb2⟩; have HO2 : Hid (RowTm w1.heap.size w2 (nm, sy) a' c' F) := ho2; have HB2 : Hid (Below w.heap.size w w2) := HB1.out.trans (hb2.mono HB1.out.size); clear ho2 hb2))
          go_ret
          refine ⟨_, [⟨(nm, sy), F, a', c'⟩], rfl, Lst.one ⟨(nm, sy), F, a', c'⟩ HB2.out.size (HO2.out.own.mono (fun q _ hq => Nat.le_trans HB1.out.size hq)), (fun h => by simp at h), by rw [e.out]; rfl, HB2.out.alloc HB2.out.size _⟩
        · have e : Hid (partsN (sgOf l) f ((nm, sy), F) = kidsL F) := by show _ = _; rw [REST.out hun.out]; unfold headed noName; rw [hn, hs]; simp
          go_enter Try.func81, Try.ntmps81
          rw [hj] at HJ
          go_wp2_with (first
            | (go_at_call 67; refine (HJ.out _ hlow.out).mono ?_; rintro e w1 ⟨rfl, hb1⟩; have HB1 : Hid (Below w.heap.size w w1) := hlow.out.trans (hb1.mono (by simp)); have hbx := hb.below hb1; have HBX : Hid (TBox w1 w.heap.size (nm, sy) ta (lenF F) tc) := hbx; have c0 := hbx.c0; have c1 := hbx.c1; have c2 := hbx.c2; clear hb1 hbx)
            | (go_at_call 82; refine (HU.out _ HB1.out).mono ?_; rintro e w9 ⟨he, hw9⟩; unfold UnitRet at he; rw [hui, huo] at he; subst he; rw [hw9]; clear hw9)
            | (go_at_call 105; refine (HK.out _ HB1.out).mono ?_; rintro e w2 ⟨v, ks, rfl, ho2, hn2, hm2, hb2⟩; have HO2 : Hid (Lst w.heap.size w2 v ks) := ho2.base HB1.out.size; have HN2 : Hid (ks = [] → v = .slice none 0 0) := hn2; have HM2 : Hid (ks.map Kv.tn = kidsL F) := hm2; have HB2 : Hid (Below w.heap.size w w2) := HB1.out.trans (hb2.mono HB1.out.size); clear ho2 hn2 hm2 hb2))
          go_ret
          refine ⟨v, ks, rfl, HO2.out, HN2.out, by rw [HM2.out, e.out], HB2.out⟩
    · have hcc : Hid (isUn (sgOf l) f ((nm, sy), F) = isConst ((nm, sy), F) ui) := by
        show _ = _
        rw [← hui]
        unfold unitOk at huo
        cases hq : unitAt l f with
        | none => rw [hq] at huo; simp at huo
        | some i => simp [isUn, sgOf, unitI, hq]
      cases hcu : isConst ((nm, sy), F) ui
      · have hun : Hid (isUn (sgOf l) f ((nm, sy), F) = false) := by show _ = _; rw [hcc.out, hcu]
        cases hn : nm.toList.isEmpty
        · have e : Hid (partsN (sgOf l) f ((nm, sy), F) = [((nm, sy), F)]) := by show _ = _; rw [REST.out hun.out]; unfold headed noName; rw [hn]; simp
          go_enter Try.func81, Try.ntmps81
          rw [hj] at HJ
          go_wp2_with (first
            | (go_at_call 67; refine (HJ.out _ hlow.out).mono ?_; rintro e w1 ⟨rfl, hb1⟩; have HB1 : Hid (Below w.heap.size w w1) := hlow.out.trans (hb1.mono (by simp)); have hbx := hb.below hb1; have HBX : Hid (TBox w1 w.heap.size (nm, sy) ta (lenF F) tc) := hbx; have c0 := hbx.c0; have c1 := hbx.c1; have c2 := hbx.c2; clear hb1 hbx)
            | (go_at_call 82; refine (HU.out _ HB1.out).mono ?_; rintro e w9 ⟨he, hw9⟩; unfold UnitRet at he; rw [hui, huo] at he; subst he; rw [hw9]; clear hw9)
            | (go_at_call 104; refine (HC.out _ _).mono ?_; rintro e w3 ⟨he, hb3⟩; rw [hcu] at he; subst he; have HB3 : Hid (Below w.heap.size w w3) := HB1.out.trans (hb3.mono HB1.out.size); have hby := HBX.out.below hb3; have d0 := hby.c0; have d1 := hby.c1; have d2 := hby.c2; clear hb3 hby)
            | (go_at_call 29; refine (HL.out _ HB3.out).mono ?_; rintro e w2 ⟨a', c', rfl, ho2, hb2⟩; have HO2 : Hid (RowTm w3.heap.size w2 (nm, sy) a' c' F) := ho2; have HB2 : Hid (Below w.heap.size w w2) := HB3.out.trans (hb2.mono HB3.out.size); clear ho2 hb2))
          go_ret
          refine ⟨_, [⟨(nm, sy), F, a', c'⟩], rfl, Lst.one ⟨(nm, sy), F, a', c'⟩ HB2.out.size (HO2.out.own.mono (fun q _ hq => Nat.le_trans HB3.out.size hq)), (fun h => by simp at h), by rw [e.out]; rfl, HB2.out.alloc HB2.out.size _⟩
        · cases hs : (sy == f)
          · have e : Hid (partsN (sgOf l) f ((nm, sy), F) = [((nm, sy), F)]) := by show _ = _; rw [REST.out hun.out]; unfold headed; rw [hs]; simp
            go_enter Try.func81, Try.ntmps81
            rw [hj] at HJ
            go_wp2_with (first
              | (go_at_call 67; refine (HJ.out _ hlow.out).mono ?_; rintro e w1 ⟨rfl, hb1⟩; have HB1 : Hid (Below w.heap.size w w1) := hlow.out.trans (hb1.mono (by simp)); have hbx := hb.below hb1; have HBX : Hid (TBox w1 w.heap.size (nm, sy) ta (lenF F) tc) := hbx; have c0 := hbx.c0; have c1 := hbx.c1; have c2 := hbx.c2; clear hb1 hbx)
              | (go_at_call 82; refine (HU.out _ HB1.out).mono ?_; rintro e w9 ⟨he, hw9⟩; unfold UnitRet at he; rw [hui, huo] at he; subst he; rw [hw9]; clear hw9)
              | (go_at_call 104; refine (HC.out _ _).mono ?_; rintro e w3 ⟨he, hb3⟩; rw [hcu] at he; subst he; have HB3 : Hid (Below w.heap.size w w3) := HB1.out.trans (hb3.mono HB1.out.size); have hby := HBX.out.below hb3; have d0 := hby.c0; have d1 := hby.c1; have d2 := hby.c2; clear hb3 hby)
              | (go_at_call 29; refine (HL.out _ HB3.out).mono ?_; rintro e w2 ⟨a', c', rfl, ho2, hb2⟩; have HO2 : Hid (RowTm w3.heap.size w2 (nm, sy) a' c' F) := ho2; have HB2 : Hid (Below w.heap.size w w2) := HB3.out.trans (hb2.mono HB3.out.size); clear ho2 hb2))
            go_ret
            refine ⟨_, [⟨(nm, sy), F, a', c'⟩], rfl, Lst.one ⟨(nm, sy), F, a', c'⟩ HB2.out.size (HO2.out.own.mono (fun q _ hq => Nat.le_trans HB3.out.size hq)), (fun h => by simp at h), by rw [e.out]; rfl, HB2.out.alloc HB2.out.size _⟩
          · have e : Hid (partsN (sgOf l) f ((nm, sy), F) = kidsL F) := by show _ = _; rw [REST.out hun.out]; unfold headed noName; rw [hn, hs]; simp
            go_enter Try.func81, Try.ntmps81
            rw [hj] at HJ
            go_wp2_with (first
              | (go_at_call 67; refine (HJ.out _ hlow.out).mono ?_; rintro e w1 ⟨rfl, hb1⟩; have HB1 : Hid (Below w.heap.size w w1) := hlow.out.trans (hb1.mono (by simp)); have hbx := hb.below hb1; have HBX : Hid (TBox w1 w.heap.size (nm, sy) ta (lenF F) tc) := hbx; have c0 := hbx.c0; have c1 := hbx.c1; have c2 := hbx.c2; clear hb1 hbx)
              | (go_at_call 82; refine (HU.out _ HB1.out).mono ?_; rintro e w9 ⟨he, hw9⟩; unfold UnitRet at he; rw [hui, huo] at he; subst he; rw [hw9]; clear hw9)
              | (go_at_call 104; refine (HC.out _ _).mono ?_; rintro e w3 ⟨he, hb3⟩; rw [hcu] at he; subst he; have HB3 : Hid (Below w.heap.size w w3) := HB1.out.trans (hb3.mono HB1.out.size); have hby := HBX.out.below hb3; have d0 := hby.c0; have d1 := hby.c1; have d2 := hby.c2; clear hb3 hby)
              | (go_at_call 105; refine (HK.out _ HB3.out).mono ?_; rintro e w2 ⟨v, ks, rfl, ho2, hn2, hm2, hb2⟩; have HO2 : Hid (Lst w.heap.size w2 v ks) := ho2.base HB3.out.size; have HN2 : Hid (ks = [] → v = .slice none 0 0) := hn2; have HM2 : Hid (ks.map Kv.tn = kidsL F) := hm2; have HB2 : Hid (Below w.heap.size w w2) := HB3.out.trans (hb2.mono HB3.out.size); clear ho2 hn2 hm2 hb2))
            go_ret
            refine ⟨v, ks, rfl, HO2.out, HN2.out, by rw [HM2.out, e.out], HB2.out⟩
      · have e : Hid (partsN (sgOf l) f ((nm, sy), F) = []) := NONE.out (by rw [hcc.out, hcu])
        go_enter Try.func81, Try.ntmps81
        rw [hj] at HJ
        go_wp2_with (first
          | (go_at_call 67; refine (HJ.out _ hlow.out).mono ?_; rintro e w1 ⟨rfl, hb1⟩; have HB1 : Hid (Below w.heap.size w w1) := hlow.out.trans (hb1.mono (by simp)); have hbx := hb.below hb1; have HBX : Hid (TBox w1 w.heap.size (nm, sy) ta (lenF F) tc) := hbx; have c0 := hbx.c0; have c1 := hbx.c1; have c2 := hbx.c2; clear hb1 hbx)
          | (go_at_call 82; refine (HU.out _ HB1.out).mono ?_; rintro e w9 ⟨he, hw9⟩; unfold UnitRet at he; rw [hui, huo] at he; subst he; rw [hw9]; clear hw9)
          | (go_at_call 104; refine (HC.out _ _).mono ?_; rintro e w3 ⟨he, hb3⟩; rw [hcu] at he; subst he; have HB3 : Hid (Below w.heap.size w w3) := HB1.out.trans (hb3.mono HB1.out.size); have hby := HBX.out.below hb3; have d0 := hby.c0; have d1 := hby.c1; have d2 := hby.c2; clear hb3 hby))
        go_ret
        exact ⟨_, [], rfl, Lst.nil _ _, fun _ => rfl, by rw [e.out]; rfl, HB3.out⟩
end Go.Proofs.Ytfnfbljijkjkjaa
