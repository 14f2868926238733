/- What the document's At answers. -/
import Derived.Test.YtmhdapgiealmfaaTPut
namespace Go.Proofs.Ytmhdapgiealmfaa
open Go.RowKit Go.Deep

theorem own_none (W : World) (B0 : Nat) : RowTm B0 W (ansT none).1 none 0 (ansT none).2 := ⟨⟨by decide, Nat.le_refl _, by simp, by simp [ansT, noT, lenF]⟩, .inl rfl⟩
theorem TBox.sets {W : World} {B : Nat} {x y : ByteArray × Int} {a b : Option Addr} {n m c d : Nat} (h : TBox W B y b m d) : TBox (((W.setCell ⟨B, 0, none⟩ (.string x.1)).setCell ⟨B, 1, none⟩ (.int .i64 x.2)).setCell ⟨B, 2, none⟩ (.slice a n c)) B x a n c := XBox.all (x := x) (y := y) h _

set_option maxRecDepth 100000 in
set_option maxHeartbeats 4000000 in
theorem rat_own (ps : List Int) (t : Tn) (a : Option Addr) (c : Nat) (pa : Option Addr) (pn pc : Nat) (w : World) (hT : TmAt w t.1 a c t.2) (hP : IntsAt w pa pn ps) (hpn : pn ≤ 9223372036854775807) :
    Calls Try.prog 28 #[.agg #[.string t.1.1, .int .i64 t.1.2, .slice a (lenF t.2) c], .slice pa pn pc] w fun e w' => ∃ a' c', e = .returned (ansV (subT ps t) a' c') ∧ OwnTm false (fun q => w.heap.size ≤ q) w' (ansT (subT ps t)).1 a' c' (ansT (subT ps t)).2 ∧ Below w.heap.size w w' := by
  have hb1 : Below w.heap.size w (w.alloc (.cells #[.string t.1.1, .int .i64 t.1.2, .slice a (lenF t.2) c] 26)) := (Below.refl _ w).alloc (Nat.le_refl _) _
  have hb2 : Below w.heap.size w ((w.alloc (.cells #[.string t.1.1, .int .i64 t.1.2, .slice a (lenF t.2) c] 26)).alloc (.cells #[.string ⟨#[]⟩, .int .i64 0, .slice none 0 0] 26)) := hb1.alloc hb1.size _
  have hbx : TBox ((w.alloc (.cells #[.string t.1.1, .int .i64 t.1.2, .slice a (lenF t.2) c] 26)).alloc (.cells #[.string ⟨#[]⟩, .int .i64 0, .slice none 0 0] 26)) w.heap.size t.1 a (lenF t.2) c := (TBox.new w _ a _ c).below ((Below.refl _ _).alloc (Nat.le_refl _) _)
  have hrx : XBox ((w.alloc (.cells #[.string t.1.1, .int .i64 t.1.2, .slice a (lenF t.2) c] 26)).alloc (.cells #[.string ⟨#[]⟩, .int .i64 0, .slice none 0 0] 26)) (w.heap.size + 1) (⟨#[]⟩, 0) (.slice none 0 0) := heap_alloc2_new w _ _
  obtain rfl := hP.len
  have HT : Hid (TmAt w t.1 a c t.2) := hT
  have HP : Hid (IntsAt w pa ps.length ps) := hP
  clear hT hP hb1
  go_enter Try.func28, Try.ntmps28
  go_wp2
  go_loopw [6] (fun i wr => ∃ (k : Nat) (t1 : Tn) (a1 : Option Addr) (c1 : Nat), k ≤ ps.length ∧ i = .int .i64 k ∧ TBox wr w.heap.size t1.1 a1 (lenF t1.2) c1 ∧ TmAt w t1.1 a1 c1 t1.2 ∧ subT (ps.drop k) t1 = subT ps t ∧ Below w.heap.size w wr ∧ XBox wr (w.heap.size + 1) (⟨#[]⟩, 0) (.slice none 0 0)) (fun i _ => ps.length - (intOf i).toNat)
  case atStart => exact ⟨0, t, a, c, Nat.zero_le _, rfl, hbx, HT.out, rfl, hb2, hrx⟩
  case round =>
    obtain ⟨k, t1, a1, c1, hk, rfl, hB, hT1, hS, hb, hX⟩ := hrel
    clear hbx hb2 hrx
    have HB : Hid (TBox wr w.heap.size t1.1 a1 (lenF t1.2) c1) := hB
    have HT1 : Hid (TmAt w t1.1 a1 c1 t1.2) := hT1
    have HS : Hid (subT (ps.drop k) t1 = subT ps t) := hS
    have HL : Hid (Below w.heap.size w wr) := hb
    have HX : Hid (XBox wr (w.heap.size + 1) (⟨#[]⟩, 0) (.slice none 0 0)) := hX
    have hnl : lenF t1.2 ≤ 9223372036854775807 := by have := hT1.sizes.len; have := hT1.sizes.cap; unfold maxLen at *; omega
    by_cases hlt : k < ps.length
    · obtain ⟨pb, po, rfl, p0'⟩ := HP.out.cells k hlt
      obtain ⟨i, hid⟩ : ∃ i, ps[k] = i := ⟨_, rfl⟩
      rw [hid] at p0'
      have p0 := below_cell hb _ _ p0'
      have b2 := hB.c2
      have HD : Hid (ps.drop k = i :: ps.drop (k + 1)) := by show _ = _; rw [List.drop_eq_getElem_cons hlt, hid]
      have hj0 : (0 : Int) ≤ (k : Int) := by omega
      have hjn : (k : Int) < (ps.length : Int) := by omega
      have hne := later_some wr
      have d0 := later_cell p0
      have d1 := later_cell b2
      clear hB hT1 hS hb hX hid
      by_cases hbad : i < 0
      · have hd : decide (i < 0) = true := by simp; omega
        have HN : Hid (subT ps t = none) := by
          show _ = _
          rw [← HS.out, HD.out, subT, kidT_bad (by omega)]
        go_wp2_with fail
        refine wp_region_later (by kernel_rfl) (by kernel_rfl) ?_
        repeat (go_big_quiet_step (fail))
        refine wpQuiet_nil ?_
        intro _ hw'
        obtain ⟨b3, hw''⟩ := hw'
        subst hw''
        have hX3 := HX.out.below b3.below
        have r0 := hX3.c0; have r1 := hX3.c1; have r2 := hX3.c2
        have f0 := hX3.f (k := 0); have f1 := hX3.f (k := 1); have f2 := hX3.f (k := 2)
        have HX3 : Hid (XBox b3.now (w.heap.size + 1) (⟨#[]⟩, 0) (.slice none 0 0)) := hX3
        have HL3 : Hid (Below w.heap.size w b3.now) := HL.out.trans (b3.below.mono HL.out.size)
        clear hX3 d0 d1 hne p0 p0' b2
        go_wp2
        refine ret_pair rfl rfl (HX3.out.all (x := (⟨#[]⟩, 0)) _) rfl ?_
        rw [HN.out]
        exact ⟨none, 0, rfl, (own_none _ w.heap.size).own, sets_below HL3.out (by omega) _ _ _⟩
      · obtain ⟨n, rfl⟩ : ∃ n : Nat, i = n := ⟨i.toNat, by omega⟩
        have hd : decide ((n : Int) < 0) = false := by simp
        by_cases hge : lenF t1.2 ≤ n
        · have hd2 : decide (lenF t1.2 ≤ n) = true := by simp; omega
          have HN : Hid (subT ps t = none) := by
            show _ = _
            rw [← HS.out, HD.out, subT, kidT_bad (by omega)]
          go_wp2_with fail
          refine wp_region_later (by kernel_rfl) (by kernel_rfl) ?_
          repeat (go_big_quiet_step (fail))
          refine wpQuiet_nil ?_
          intro _ hw'
          obtain ⟨b3, hw''⟩ := hw'
          subst hw''
          have hX3 := HX.out.below b3.below
          have r0 := hX3.c0; have r1 := hX3.c1; have r2 := hX3.c2
          have f0 := hX3.f (k := 0); have f1 := hX3.f (k := 1); have f2 := hX3.f (k := 2)
          have HX3 : Hid (XBox b3.now (w.heap.size + 1) (⟨#[]⟩, 0) (.slice none 0 0)) := hX3
          have HL3 : Hid (Below w.heap.size w b3.now) := HL.out.trans (b3.below.mono HL.out.size)
          clear hX3 d0 d1 hne p0 p0' b2
          go_wp2
          refine ret_pair rfl rfl (HX3.out.all (x := (⟨#[]⟩, 0)) _) rfl ?_
          rw [HN.out]
          exact ⟨none, 0, rfl, (own_none _ w.heap.size).own, sets_below HL3.out (by omega) _ _ _⟩
        · have hd2 : decide (lenF t1.2 ≤ n) = false := by simp; omega
          obtain ⟨g, q, rfl, hkk⟩ := HT1.out.args.get (by omega)
          obtain ⟨y, a2, c2, l2, kd⟩ := hkk.kid (k := n) (by omega)
          obtain ⟨B1, O1, sp⟩ := kd.split
          have HU : Hid ((kidsL t1.2)[n]? = some (y, l2)) := kids_split sp
          have kd' := kd.below HL.out
          have HK : Hid (TmAt w y a2 c2 l2) := kd.at_
          have hn0 : (0 : Int) ≤ (n : Int) := by omega
          have hnn : (n : Int) < (lenF t1.2 : Int) := by omega
          have k0 := kd'.name; have k1 := kd'.sym; have k2 := kd'.list
          clear hkk kd sp kd'
          go_wp2_with fail
          refine wp_region_later (by kernel_rfl) (by kernel_rfl) ?_
          repeat (go_big_quiet_step (fail))
          refine wpQuiet_nil ?_
          intro _ hw'
          obtain ⟨b3, hw''⟩ := hw'
          subst hw''
          have HX3 : Hid (XBox b3.now (w.heap.size + 1) (⟨#[]⟩, 0) (.slice none 0 0)) := HX.out.below b3.below
          have HB3 : Hid (TBox b3.now w.heap.size t1.1 (some ⟨g, q, none⟩) (lenF t1.2) c1) := HB.out.below b3.below
          have HL3 : Hid (Below w.heap.size w b3.now) := HL.out.trans (b3.below.mono HL.out.size)
          have e0 := later_cell k0 b3
          have e1 := later_cell k1 b3
          have e2 := later_cell k2 b3
          have p1 := d0 b3
          have b1 := d1 b3
          obtain ⟨W9, hW9⟩ : ∃ W9, b3.now = W9 := ⟨_, rfl⟩
          rw [hW9] at HX3 HB3 HL3 e0 e1 e2 p1 b1 ⊢
          clear hW9 d0 d1 hne p0 p0' b2 k0 k1 k2
          have u0 := HB3.out.c0
          have u1 := HB3.out.c1
          have f0 := XBox.f (k := 0) HB3.out
          have f1 := XBox.f (k := 1) HB3.out
          have f2 := XBox.f (k := 2) HB3.out
          go_wp2
          go_region
          all_goals
            go_wp2
            go_roundw
            case rel =>
              refine ⟨k + 1, (y, l2), a2, c2, by omega, by go_num, ?_, HK.out, ?_, ?_, ?_⟩
              · exact TBox.sets HB3.out
              · rw [← HS.out, HD.out, subT, kidT_is (by omega) HU.out]
              · exact (sets_below HL3.out (Nat.le_refl _) _ _ _).drew
              · exact (sets_far (by omega) _ _ _).trans HX3.out
            case measure => simp [intOf]; omega
    · have e1 : ps.drop k = [] := List.drop_eq_nil_iff.2 (by omega)
      rw [e1, subT] at hS
      have HS' : Hid (subT ps t = some t1) := hS.symm
      have x0 := hB.c0; have x1 := hB.c1; have x2 := hB.c2
      clear hB hT1 hS hb hX HS
      go_wp2_with fail
      refine (rclone_any t1.1 t1.2 a1 c1 wr (HT1.out.below HL.out)).mono ?_
      rintro e w2 ⟨a2, c2, rfl, ho2, hb⟩
      have hX3 := HX.out.below hb
      have r0 := hX3.c0; have r1 := hX3.c1; have r2 := hX3.c2
      have f0 := hX3.f (k := 0); have f1 := hX3.f (k := 1); have f2 := hX3.f (k := 2)
      have HX3 : Hid (XBox w2 (w.heap.size + 1) (⟨#[]⟩, 0) (.slice none 0 0)) := hX3
      have HL3 : Hid (Below w.heap.size w w2) := HL.out.trans (hb.mono HL.out.size)
      have HO : Hid (RowTm wr.heap.size w2 t1.1 a2 c2 t1.2) := ho2
      have hxlt := HX.out.lt
      clear hX3 hb ho2 x0 x1 x2
      go_wp2
      refine ret_pair rfl rfl (HX3.out.all (x := t1.1) _) rfl ?_
      rw [HS'.out]
      exact ⟨a2, c2, rfl, ((HO.out.keep (fun q hq _ => sets_far (by omega) _ _ _)).own.mono (fun q _ hq => Nat.le_trans HL.out.size hq)), sets_below HL3.out (by omega) _ _ _⟩
theorem rat_any (ps : List Int) (t : Tn) (a : Option Addr) (c : Nat) (pa : Option Addr) (pn pc : Nat) (w : World) (hT : TmAt w t.1 a c t.2) (hP : IntsAt w pa pn ps) (hpn : pn ≤ 9223372036854775807) :
    Calls Try.prog 28 #[.agg #[.string t.1.1, .int .i64 t.1.2, .slice a (lenF t.2) c], .slice pa pn pc] w fun e w' => ∃ a' c', e = .returned (ansV (subT ps t) a' c') ∧ TmAt w' (ansT (subT ps t)).1 a' c' (ansT (subT ps t)).2 ∧ Below w.heap.size w w' :=
  (rat_own ps t a c pa pn pc w hT hP hpn).mono fun _ _ ⟨a', c', he, ho, hb⟩ => ⟨a', c', he, ho.tm, hb⟩
end Go.Proofs.Ytmhdapgiealmfaa
