import Derived.Test.YtokbgbbkopmngaaTPath
import Derived.Test.YtokbgbbkopmngaaTClone
import Derived.Test.YtokbgbbkopmngaaTRChkB
import Derived.Test.YtokbgbbkopmngaaTSpoil
import Derived.Deep.RegionHeld3
import Derived.Deep.DeepCutAuto
/- Where the program's reach leads; what At answers. -/
namespace Go.Proofs.Ytokbgbbkopmngaa
open Go.RowKit Go.Deep

/-- The term that the path leads to, with its cells. -/
structure Led (w : World) (ps : List Int) (b o : Nat) (t : Tn) (v : Value) (u : Tn) : Prop where
  at_ : ∃ b' o' a c, v = .pointer (some ⟨b', o', none⟩) ∧ Node w b' o' u.1 a c u.2 ∧ TmAt w u.1 a c u.2 ∧ Leads w ps b o t b' o'

theorem leads_step {w : World} {ps : List Int} {k : Nat} (hk : k < ps.length) {b o : Nat} {t : Tn} {g q c n : Nat} {u : Tn} {b' o' : Nat} (hi : ps[k] = (n : Int)) (hn : n < lenF t.2) (hu : (kidsL t.2)[n]? = some u)
    (hc : w.cell? ⟨b, o + 2, none⟩ = some (.slice (some ⟨g, q, none⟩) (lenF t.2) c)) (h : Leads w (ps.drop (k + 1)) g (q + n * 3) u b' o') : Leads w (ps.drop k) b o t b' o' := by
  rw [List.drop_eq_getElem_cons hk, hi]
  exact ⟨n, g, q, c, u, rfl, hn, hu, hc, h⟩

end Go.Proofs.Ytokbgbbkopmngaa
/- What At and Put of package terms answer. -/
namespace Go.Proofs.Ytokbgbbkopmngaa
open Go.RowKit Go.Deep

theorem results_pair {fn : Func} {p u : Tmp} {ty : TypeId} (h : fn.results = #[.cell p ty, .tmp u]) (tmps : Array Value) (P : Program) (w : World) :
    (results fn tmps).run P w =
      ((asAddr (tmps.getD p undef)).run P w).andThen fun a w₁ => ((loadVar ty a).run P w₁).andThen fun x w₂ => .ok (.tuple #[x, tmps.getD u undef]) w₂ := by
  simp only [results, h]
  simp [Sem.run_bind, Result.andThen]
theorem ret_pair {fn : Func} {R : Ending → World → Prop} {a : Act} {w : World} {p u B : Nat} {x : ByteArray × Int} {v : Value} (h : fn.results = #[.cell p 26, .tmp u]) (hp : a.tmps.getD p undef = .pointer (some ⟨B, 0, none⟩))
    (hx : XBox w B x v) (hd : a.defers = []) (hR : R (.returned (.tuple #[.agg #[.string x.1, .int .i64 x.2, v], a.tmps.getD u undef])) w) : bodyPost Try.prog fn R .ret a w := by
  refine bodyPost_ret ?_ hd hR
  rw [results_pair h, hp]
  rw [show (asAddr (.pointer (some ⟨B, 0, none⟩))).run Try.prog w = .ok ⟨B, 0, none⟩ w from rfl]
  simp only [Result.andThen_ok, run_loadVar_row w B 26 26 _ (0, 0) _ hx Try.underlying26 rfl Try.size26]
/-- The answer as a value. -/
def ansV (o : Option Tn) (a : Option Addr) (c : Nat) : Value := .tuple #[.agg #[.string (ansT o).1.1, .int .i64 (ansT o).1.2, .slice a (lenF (ansT o).2) c], .int .i64 (ansE o)]
theorem sep_none (W : World) (A : Nat → Prop) : SepTm W A (ansT none).1 none 0 (ansT none).2 := ⟨⟨by decide, Nat.le_refl _, by simp, by simp [ansT, noT, lenF]⟩, .inl rfl⟩
theorem TBox.node {W : World} {B : Nat} {x : ByteArray × Int} {a : Option Addr} {c : Nat} {l : Fo} (h : TBox W B x a (lenF l) c) : Node W B 0 x a c l := ⟨h.c0, h.c1, h.c2⟩

end Go.Proofs.Ytokbgbbkopmngaa
/- What Put of package terms answers. -/
namespace Go.Proofs.Ytokbgbbkopmngaa
open Go.RowKit Go.Deep

theorem put_none (u : Tn) : ∀ (ps : List Int) (t : Tn), subT ps t = none → putT u ps t = none
  | [], _, h => by simp [subT] at h
  | i :: p, t, h => by
    rw [subT] at h
    rw [putT]
    cases hk : kidT i t.2 with
    | none => rfl
    | some k =>
      rw [hk] at h
      simp only [put_none u p k h]
theorem sets_cells {W : World} {g n : Nat} {a b c : Value} {cur : Array Value} (h : W.heap[g]? = some (Obj.cells cur 26 (0, 0))) (hn : n + 3 ≤ cur.size) :
    (((W.setCell ⟨g, n, none⟩ a).setCell ⟨g, n + 1, none⟩ b).setCell ⟨g, n + 2, none⟩ c).cell? ⟨g, n, none⟩ = some a ∧ (((W.setCell ⟨g, n, none⟩ a).setCell ⟨g, n + 1, none⟩ b).setCell ⟨g, n + 2, none⟩ c).cell? ⟨g, n + 1, none⟩ = some b ∧ (((W.setCell ⟨g, n, none⟩ a).setCell ⟨g, n + 1, none⟩ b).setCell ⟨g, n + 2, none⟩ c).cell? ⟨g, n + 2, none⟩ = some c := by
  have h3 := block_set (k := n + 2) (block_set (k := n + 1) (block_set (k := n) h a) b) c
  rw [cell_of_row _ g n _ 26 (0, 0) h3, cell_of_row _ g (n + 1) _ 26 (0, 0) h3, cell_of_row _ g (n + 2) _ 26 (0, 0) h3]
  refine ⟨?_, ?_, ?_⟩ <;> simp [Array.getElem?_setIfInBounds] <;> omega
theorem cell_size {W : World} {g i : Nat} {cur : Array Value} {v : Value} (h : W.heap[g]? = some (Obj.cells cur 26 (0, 0))) (hc : W.cell? ⟨g, i, none⟩ = some v) : i < cur.size := by
  rw [cell_of_row _ g i _ 26 (0, 0) h] at hc
  exact (Array.getElem?_eq_some_iff.1 hc).1
theorem sets_outside {W : World} {g i n : Nat} {a b c : Value} {v : Value} (hi : i < n ∨ n + 3 ≤ i) (h : W.cell? ⟨g, i, none⟩ = some v) : (((W.setCell ⟨g, n, none⟩ a).setCell ⟨g, n + 1, none⟩ b).setCell ⟨g, n + 2, none⟩ c).cell? ⟨g, i, none⟩ = some v := by
  rw [World.cell?_setCell_other _ _ _ _ (fun e => by cases e; omega), World.cell?_setCell_other _ _ _ _ (fun e => by cases e; omega), World.cell?_setCell_other _ _ _ _ (fun e => by cases e; omega)]
  exact h
theorem sets_elsewhere {W : World} {g n q : Nat} {a b c : Value} (h : q ≠ g) : (((W.setCell ⟨g, n, none⟩ a).setCell ⟨g, n + 1, none⟩ b).setCell ⟨g, n + 2, none⟩ c).heap[q]? = W.heap[q]? :=
  ((Below.heap_setCell _ _ _ _ h).trans (Below.heap_setCell _ _ _ _ h)).trans (Below.heap_setCell _ _ _ _ h)
theorem sets_low {n0 : Nat} {w W : World} {g n : Nat} (hb : Below n0 w W) (h : n0 ≤ g) (a b c : Value) : Below n0 w (((W.setCell ⟨g, n, none⟩ a).setCell ⟨g, n + 1, none⟩ b).setCell ⟨g, n + 2, none⟩ c) :=
  ((hb.setCell (p := ⟨g, n, none⟩) h _).setCell (p := ⟨g, n + 1, none⟩) h _).setCell (p := ⟨g, n + 2, none⟩) h _

/-- The three boxes of Put. -/
structure PutIn (w : World) (t u : Tn) (a ua : Option Addr) (c uc : Nat) (W : World) : Prop where
  low : Below w.heap.size w W
  t : TBox W w.heap.size t.1 a (lenF t.2) c
  u : TBox W (w.heap.size + 1) u.1 ua (lenF u.2) uc
  r : XBox W (w.heap.size + 1 + 1) (⟨#[]⟩, 0) (.slice none 0 0)
theorem PutIn.new (w : World) (t u : Tn) (a ua : Option Addr) (c uc : Nat) : PutIn w t u a ua c uc (((w.alloc (.cells #[.string t.1.1, .int .i64 t.1.2, .slice a (lenF t.2) c] 26)).alloc (.cells #[.string u.1.1, .int .i64 u.1.2, .slice ua (lenF u.2) uc] 26)).alloc (.cells #[.string ⟨#[]⟩, .int .i64 0, .slice none 0 0] 26)) := by
  have P := Pair.new w t.1 a (lenF t.2) c u.1 ua (lenF u.2) uc
  have hb : Below ((w.alloc (.cells #[.string t.1.1, .int .i64 t.1.2, .slice a (lenF t.2) c] 26)).alloc (.cells #[.string u.1.1, .int .i64 u.1.2, .slice ua (lenF u.2) uc] 26)).heap.size ((w.alloc (.cells #[.string t.1.1, .int .i64 t.1.2, .slice a (lenF t.2) c] 26)).alloc (.cells #[.string u.1.1, .int .i64 u.1.2, .slice ua (lenF u.2) uc] 26)) _ := (Below.refl _ _).alloc (Nat.le_refl _) (.cells #[.string ⟨#[]⟩, .int .i64 0, .slice none 0 0] 26)
  refine ⟨P.low.alloc P.low.size _, P.l.below hb, P.r.below hb, ?_⟩
  have := heap_alloc_new ((w.alloc (.cells #[.string t.1.1, .int .i64 t.1.2, .slice a (lenF t.2) c] 26)).alloc (.cells #[.string u.1.1, .int .i64 u.1.2, .slice ua (lenF u.2) uc] 26)) (.cells #[.string ⟨#[]⟩, .int .i64 0, .slice none 0 0] 26)
  rw [World.size_alloc, World.size_alloc] at this
  exact this
theorem PutIn.below {w : World} {t u : Tn} {a ua : Option Addr} {c uc : Nat} {W W' : World} (h : PutIn w t u a ua c uc W) (hb : Below W.heap.size W W') : PutIn w t u a ua c uc W' := ⟨h.low.trans (hb.mono h.low.size), h.t.below hb, h.u.below hb, h.r.below hb⟩

end Go.Proofs.Ytokbgbbkopmngaa
/- What the document's At answers. -/
namespace Go.Proofs.Ytokbgbbkopmngaa
open Go.RowKit Go.Deep

theorem own_none (W : World) (B0 : Nat) : RowTm B0 W (ansT none).1 none 0 (ansT none).2 := ⟨⟨by decide, Nat.le_refl _, by simp, by simp [ansT, noT, lenF]⟩, .inl rfl⟩
theorem TBox.sets {W : World} {B : Nat} {x y : ByteArray × Int} {a b : Option Addr} {n m c d : Nat} (h : TBox W B y b m d) : TBox (((W.setCell ⟨B, 0, none⟩ (.string x.1)).setCell ⟨B, 1, none⟩ (.int .i64 x.2)).setCell ⟨B, 2, none⟩ (.slice a n c)) B x a n c := XBox.all (x := x) (y := y) h _

set_option maxRecDepth 100000 in
set_option maxHeartbeats 4000000 in
theorem rat_own (ps : List Int) (t : Tn) (a : Option Addr) (c : Nat) (pa : Option Addr) (pn pc : Nat) (w : World) (hT : TmAt w t.1 a c t.2) (hP : IntsAt w pa pn ps) (hpn : pn ≤ 9223372036854775807) :
    Calls Try.prog 25 #[.agg #[.string t.1.1, .int .i64 t.1.2, .slice a (lenF t.2) c], .slice pa pn pc] w fun e w' => ∃ a' c', e = .returned (ansV (subT ps t) a' c') ∧ OwnTm false (fun q => w.heap.size ≤ q) w' (ansT (subT ps t)).1 a' c' (ansT (subT ps t)).2 ∧ Below w.heap.size w w' := by
  have hb1 : Below w.heap.size w (w.alloc (.cells #[.string t.1.1, .int .i64 t.1.2, .slice a (lenF t.2) c] 26)) := (Below.refl _ w).alloc (Nat.le_refl _) _
  have hb2 : Below w.heap.size w ((w.alloc (.cells #[.string t.1.1, .int .i64 t.1.2, .slice a (lenF t.2) c] 26)).alloc (.cells #[.string ⟨#[]⟩, .int .i64 0, .slice none 0 0] 26)) := hb1.alloc hb1.size _
  have hbx : TBox ((w.alloc (.cells #[.string t.1.1, .int .i64 t.1.2, .slice a (lenF t.2) c] 26)).alloc (.cells #[.string ⟨#[]⟩, .int .i64 0, .slice none 0 0] 26)) w.heap.size t.1 a (lenF t.2) c := (TBox.new w _ a _ c).below ((Below.refl _ _).alloc (Nat.le_refl _) _)
  have hrx : XBox ((w.alloc (.cells #[.string t.1.1, .int .i64 t.1.2, .slice a (lenF t.2) c] 26)).alloc (.cells #[.string ⟨#[]⟩, .int .i64 0, .slice none 0 0] 26)) (w.heap.size + 1) (⟨#[]⟩, 0) (.slice none 0 0) := heap_alloc2_new w _ _
  obtain rfl := hP.len
  have HT : Hid (TmAt w t.1 a c t.2) := hT
  have HP : Hid (IntsAt w pa ps.length ps) := hP
  clear hT hP hb1
  go_enter Try.func25, Try.ntmps25
  go_wp2
  go_loopw [6] (fun i wr => ∃ (k : Nat) (t1 : Tn) (a1 : Option Addr) (c1 : Nat), k ≤ ps.length ∧ i = .int .i64 k ∧ TBox wr w.heap.size t1.1 a1 (lenF t1.2) c1 ∧ TmAt w t1.1 a1 c1 t1.2 ∧ subT (ps.drop k) t1 = subT ps t ∧ Below w.heap.size w wr ∧ XBox wr (w.heap.size + 1) (⟨#[]⟩, 0) (.slice none 0 0)) (fun i _ => ps.length - (intOf i).toNat)
  case atStart => exact ⟨0, t, a, c, Nat.zero_le _, rfl, hbx, HT.out, rfl, hb2, hrx⟩
  case round =>
    obtain ⟨k, t1, a1, c1, hk, rfl, hB, hT1, hS, hb, hX⟩ := hrel
    clear hbx hb2 hrx
    have HB : Hid (TBox wr w.heap.size t1.1 a1 (lenF t1.2) c1) := hB
    have HT1 : Hid (TmAt w t1.1 a1 c1 t1.2) := hT1
    have HS : Hid (subT (ps.drop k) t1 = subT ps t) := hS
    have HL : Hid (Below w.heap.size w wr) := hb
    have HX : Hid (XBox wr (w.heap.size + 1) (⟨#[]⟩, 0) (.slice none 0 0)) := hX
    have hnl : lenF t1.2 ≤ 9223372036854775807 := by have := hT1.sizes.len; have := hT1.sizes.cap; unfold maxLen at *; omega
    by_cases hlt : k < ps.length
    · obtain ⟨pb, po, rfl, p0'⟩ := HP.out.cells k hlt
      obtain ⟨i, hid⟩ : ∃ i, ps[k] = i := ⟨_, rfl⟩
      rw [hid] at p0'
      have p0 := below_cell hb _ _ p0'
      have b2 := hB.c2
      have HD : Hid (ps.drop k = i :: ps.drop (k + 1)) := by show _ = _; rw [List.drop_eq_getElem_cons hlt, hid]
      have hj0 : (0 : Int) ≤ (k : Int) := by omega
      have hjn : (k : Int) < (ps.length : Int) := by omega
      have hne := later_some wr
      have d0 := later_cell p0
      have d1 := later_cell b2
      clear hB hT1 hS hb hX hid
      by_cases hbad : i < 0
      · have hd : decide (i < 0) = true := by simp; omega
        have HN : Hid (subT ps t = none) := by
          show _ = _
          rw [← HS.out, HD.out, subT, kidT_bad (by omega)]
        go_wp2_with fail
        refine wp_region_later (by kernel_rfl) (by kernel_rfl) ?_
        repeat (go_big_quiet_step (fail))
        refine wpQuiet_nil ?_
        intro _ hw'
        obtain ⟨b3, hw''⟩ := hw'
        subst hw''
        have hX3 := HX.out.below b3.below
        have r0 := hX3.c0; have r1 := hX3.c1; have r2 := hX3.c2
        have f0 := hX3.f (k := 0); have f1 := hX3.f (k := 1); have f2 := hX3.f (k := 2)
        have HX3 : Hid (XBox b3.now (w.heap.size + 1) (⟨#[]⟩, 0) (.slice none 0 0)) := hX3
        have HL3 : Hid (Below w.heap.size w b3.now) := HL.out.trans (b3.below.mono HL.out.size)
        clear hX3 d0 d1 hne p0 p0' b2
        go_wp2
        refine ret_pair rfl rfl (HX3.out.all (x := (⟨#[]⟩, 0)) _) rfl ?_
        rw [HN.out]
        exact ⟨none, 0, rfl, (own_none _ w.heap.size).own, sets_below HL3.out (by omega) _ _ _⟩
      · obtain ⟨n, rfl⟩ : ∃ n : Nat, i = n := ⟨i.toNat, by omega⟩
        have hd : decide ((n : Int) < 0) = false := by simp
        by_cases hge : lenF t1.2 ≤ n
        · have hd2 : decide (lenF t1.2 ≤ n) = true := by simp; omega
          have HN : Hid (subT ps t = none) := by
            show _ = _
            rw [← HS.out, HD.out, subT, kidT_bad (by omega)]
          go_wp2_with fail
          refine wp_region_later (by kernel_rfl) (by kernel_rfl) ?_
          repeat (go_big_quiet_step (fail))
          refine wpQuiet_nil ?_
          intro _ hw'
          obtain ⟨b3, hw''⟩ := hw'
          subst hw''
          have hX3 := HX.out.below b3.below
          have r0 := hX3.c0; have r1 := hX3.c1; have r2 := hX3.c2
          have f0 := hX3.f (k := 0); have f1 := hX3.f (k := 1); have f2 := hX3.f (k := 2)
          have HX3 : Hid (XBox b3.now (w.heap.size + 1) (⟨#[]⟩, 0) (.slice none 0 0)) := hX3
          have HL3 : Hid (Below w.heap.size w b3.now) := HL.out.trans (b3.below.mono HL.out.size)
          clear hX3 d0 d1 hne p0 p0' b2
          go_wp2
          refine ret_pair rfl rfl (HX3.out.all (x := (⟨#[]⟩, 0)) _) rfl ?_
          rw [HN.out]
          exact ⟨none, 0, rfl, (own_none _ w.heap.size).own, sets_below HL3.out (by omega) _ _ _⟩
        · have hd2 : decide (lenF t1.2 ≤ n) = false := by simp; omega
          obtain ⟨g, q, rfl, hkk⟩ := HT1.out.args.get (by omega)
          obtain ⟨y, a2, c2, l2, kd⟩ := hkk.kid (k := n) (by omega)
          obtain ⟨B1, O1, sp⟩ := kd.split
          have HU : Hid ((kidsL t1.2)[n]? = some (y, l2)) := kids_split sp
          have kd' := kd.below HL.out
          have HK : Hid (TmAt w y a2 c2 l2) := kd.at_
          have hn0 : (0 : Int) ≤ (n : Int) := by omega
          have hnn : (n : Int) < (lenF t1.2 : Int) := by omega
          have k0 := kd'.name; have k1 := kd'.sym; have k2 := kd'.list
          clear hkk kd sp kd'
          go_wp2_with fail
          refine wp_region_later (by kernel_rfl) (by kernel_rfl) ?_
          repeat (go_big_quiet_step (fail))
          refine wpQuiet_nil ?_
          intro _ hw'
          obtain ⟨b3, hw''⟩ := hw'
          subst hw''
          have HX3 : Hid (XBox b3.now (w.heap.size + 1) (⟨#[]⟩, 0) (.slice none 0 0)) := HX.out.below b3.below
          have HB3 : Hid (TBox b3.now w.heap.size t1.1 (some ⟨g, q, none⟩) (lenF t1.2) c1) := HB.out.below b3.below
          have HL3 : Hid (Below w.heap.size w b3.now) := HL.out.trans (b3.below.mono HL.out.size)
          have e0 := later_cell k0 b3
          have e1 := later_cell k1 b3
          have e2 := later_cell k2 b3
          have p1 := d0 b3
          have b1 := d1 b3
          obtain ⟨W9, hW9⟩ : ∃ W9, b3.now = W9 := ⟨_, rfl⟩
          rw [hW9] at HX3 HB3 HL3 e0 e1 e2 p1 b1 ⊢
          clear hW9 d0 d1 hne p0 p0' b2 k0 k1 k2
          have u0 := HB3.out.c0
          have u1 := HB3.out.c1
          have f0 := XBox.f (k := 0) HB3.out
          have f1 := XBox.f (k := 1) HB3.out
          have f2 := XBox.f (k := 2) HB3.out
          go_wp2
          go_region
          all_goals
            go_wp2
            go_roundw
            case rel =>
              refine ⟨k + 1, (y, l2), a2, c2, by omega, by go_num, ?_, HK.out, ?_, ?_, ?_⟩
              · exact TBox.sets HB3.out
              · rw [← HS.out, HD.out, subT, kidT_is (by omega) HU.out]
              · exact (sets_below HL3.out (Nat.le_refl _) _ _ _).drew
              · exact (sets_far (by omega) _ _ _).trans HX3.out
            case measure => simp [intOf]; omega
    · have e1 : ps.drop k = [] := List.drop_eq_nil_iff.2 (by omega)
      rw [e1, subT] at hS
      have HS' : Hid (subT ps t = some t1) := hS.symm
      have x0 := hB.c0; have x1 := hB.c1; have x2 := hB.c2
      clear hB hT1 hS hb hX HS
      go_wp2_with fail
      refine (rclone_any t1.1 t1.2 a1 c1 wr (HT1.out.below HL.out)).mono ?_
      rintro e w2 ⟨a2, c2, rfl, ho2, hb⟩
      have hX3 := HX.out.below hb
      have r0 := hX3.c0; have r1 := hX3.c1; have r2 := hX3.c2
      have f0 := hX3.f (k := 0); have f1 := hX3.f (k := 1); have f2 := hX3.f (k := 2)
      have HX3 : Hid (XBox w2 (w.heap.size + 1) (⟨#[]⟩, 0) (.slice none 0 0)) := hX3
      have HL3 : Hid (Below w.heap.size w w2) := HL.out.trans (hb.mono HL.out.size)
      have HO : Hid (RowTm wr.heap.size w2 t1.1 a2 c2 t1.2) := ho2
      have hxlt := HX.out.lt
      clear hX3 hb ho2 x0 x1 x2
      go_wp2
      refine ret_pair rfl rfl (HX3.out.all (x := t1.1) _) rfl ?_
      rw [HS'.out]
      exact ⟨a2, c2, rfl, ((HO.out.keep (fun q hq _ => sets_far (by omega) _ _ _)).own.mono (fun q _ hq => Nat.le_trans HL.out.size hq)), sets_below HL3.out (by omega) _ _ _⟩
theorem rat_any (ps : List Int) (t : Tn) (a : Option Addr) (c : Nat) (pa : Option Addr) (pn pc : Nat) (w : World) (hT : TmAt w t.1 a c t.2) (hP : IntsAt w pa pn ps) (hpn : pn ≤ 9223372036854775807) :
    Calls Try.prog 25 #[.agg #[.string t.1.1, .int .i64 t.1.2, .slice a (lenF t.2) c], .slice pa pn pc] w fun e w' => ∃ a' c', e = .returned (ansV (subT ps t) a' c') ∧ TmAt w' (ansT (subT ps t)).1 a' c' (ansT (subT ps t)).2 ∧ Below w.heap.size w w' :=
  (rat_own ps t a c pa pn pc w hT hP hpn).mono fun _ _ ⟨a', c', he, ho, hb⟩ => ⟨a', c', he, ho.tm, hb⟩
end Go.Proofs.Ytokbgbbkopmngaa
/- What the document's Put answers. -/
namespace Go.Proofs.Ytokbgbbkopmngaa
open Go.RowKit Go.Deep

def RPutOk (ps : List Int) : Prop := ∀ (t u : Tn) (a ua : Option Addr) (c uc : Nat) (pa : Option Addr) (pn pc : Nat) (w : World), TmAt w t.1 a c t.2 → TmAt w u.1 ua uc u.2 → IntsAt w pa pn ps → pn ≤ pc → pc ≤ 9223372036854775807 →
  Calls Try.prog 26 #[.agg #[.string t.1.1, .int .i64 t.1.2, .slice a (lenF t.2) c], .slice pa pn pc, .agg #[.string u.1.1, .int .i64 u.1.2, .slice ua (lenF u.2) uc]] w fun e w' => ∃ a' c', e = .returned (ansV (putT u ps t) a' c') ∧ OwnTm false (fun q => w.heap.size ≤ q) w' (ansT (putT u ps t)).1 a' c' (ansT (putT u ps t)).2 ∧ Below w.heap.size w w'

theorem put_cons_none {u : Tn} {n : Nat} {p : List Int} {t k : Tn} (hn : n < lenF t.2) (hk : (kidsL t.2)[n]? = some k) (h : putT u p k = none) : putT u ((n : Int) :: p) t = none := by
  rw [putT, kidT_is (m := k.2) (x := k.1) hn hk]; simp only [h]
theorem put_cons_some {u : Tn} {n : Nat} {p : List Int} {t k k' : Tn} (hn : n < lenF t.2) (hk : (kidsL t.2)[n]? = some k) (h : putT u p k = some k') : putT u ((n : Int) :: p) t = some (t.1, setF n t.2 k') := by
  rw [putT, kidT_is (m := k.2) (x := k.1) hn hk]; simp only [h, Int.toNat_natCast]

set_option maxRecDepth 100000 in
set_option maxHeartbeats 4000000 in
theorem rput_all : ∀ ps, RPutOk ps := by
  intro ps
  induction ps with
  | nil =>
    intro t u a ua c uc pa pn pc w hT hU hP hpc hpm
    obtain rfl := hP.len
    have I0 := PutIn.new w t u a ua c uc
    obtain ⟨W, hW⟩ : ∃ W, ((w.alloc (.cells #[.string t.1.1, .int .i64 t.1.2, .slice a (lenF t.2) c] 26)).alloc (.cells #[.string u.1.1, .int .i64 u.1.2, .slice ua (lenF u.2) uc] 26)).alloc (.cells #[.string ⟨#[]⟩, .int .i64 0, .slice none 0 0] 26) = W := ⟨_, rfl⟩
    rw [hW] at I0
    have HI : Hid (PutIn w t u a ua c uc W) := I0
    have HU : Hid (TmAt w u.1 ua uc u.2) := hU
    have x0 := I0.u.c0; have x1 := I0.u.c1; have x2 := I0.u.c2
    clear I0 hT hU hP
    go_enter Try.func26, Try.ntmps26
    go_wp2_with (rw [hW])
    clear hW
    refine (rclone_any u.1 u.2 ua uc W (HU.out.below HI.out.low)).mono ?_
    rintro e w1 ⟨a1, c1, rfl, hS1, hb⟩
    have HI1 : Hid (PutIn w t u a ua c uc w1) := HI.out.below hb
    have HS1 : Hid (RowTm W.heap.size w1 u.1 a1 c1 u.2) := hS1
    have hlt := HI.out.r.lt
    clear hb hS1 x0 x1 x2
    have r0 := HI1.out.r.c0; have r1 := HI1.out.r.c1; have r2 := HI1.out.r.c2
    have f0 := HI1.out.r.f (k := 0); have f1 := HI1.out.r.f (k := 1); have f2 := HI1.out.r.f (k := 2)
    go_wp2
    refine ret_pair rfl rfl (HI1.out.r.all (x := u.1) _) rfl ?_
    exact ⟨a1, c1, rfl, (HS1.out.keep (fun q hq _ => sets_far (by omega) _ _ _)).own.mono (fun q _ hq => by have := HI.out.low.size; omega), sets_below HI1.out.low (by omega) _ _ _⟩
  | cons i p ih =>
    intro t u a ua c uc pa pn pc w hT hU hP hpc hpm
    obtain rfl := hP.len
    have I0 := PutIn.new w t u a ua c uc
    obtain ⟨W, hW⟩ : ∃ W, ((w.alloc (.cells #[.string t.1.1, .int .i64 t.1.2, .slice a (lenF t.2) c] 26)).alloc (.cells #[.string u.1.1, .int .i64 u.1.2, .slice ua (lenF u.2) uc] 26)).alloc (.cells #[.string ⟨#[]⟩, .int .i64 0, .slice none 0 0] 26) = W := ⟨_, rfl⟩
    rw [hW] at I0
    have hWs : W.heap.size = w.heap.size + 1 + 1 + 1 := by rw [← hW, World.size_alloc, World.size_alloc, World.size_alloc]
    have HI : Hid (PutIn w t u a ua c uc W) := I0
    have HT : Hid (TmAt w t.1 a c t.2) := hT
    have HU : Hid (TmAt w u.1 ua uc u.2) := hU
    have HP : Hid (IntsAt w pa (i :: p).length (i :: p)) := hP
    have IH : Hid (RPutOk p) := ih
    obtain ⟨pb, po, rfl, p0'⟩ := hP.cells 0 (by simp)
    have p0 := below_cell I0.low _ _ p0'
    simp only [List.getElem_cons_zero, Nat.add_zero] at p0
    have hlen : (i :: p).length = p.length + 1 := rfl
    rw [hlen] at hpc HP ⊢
    have b2 := I0.t.c2
    have hnl : lenF t.2 ≤ 9223372036854775807 := by have := hT.sizes.len; have := hT.sizes.cap; unfold maxLen at *; omega
    have hne := later_some W
    have d0 := later_cell p0
    have d1 := later_cell b2
    have hj0 : (0 : Int) < (p.length : Int) + 1 := by omega
    have hlz : ((p.length : Int) + 1 == 0) = false := by simp; omega
    clear I0 hT hU hP ih p0'
    by_cases hbad : i < 0
    · have hd : decide (i < 0) = true := by simp; omega
      have HN : Hid (putT u (i :: p) t = none) := by
        show _ = _
        rw [putT, kidT_bad (by omega)]
      go_enter Try.func26, Try.ntmps26
      go_wp2_with (rw [hW])
      clear hW
      refine wp_region_later (by kernel_rfl) (by kernel_rfl) ?_
      repeat (go_big_quiet_step (fail))
      refine wpQuiet_nil ?_
      intro _ hw'
      obtain ⟨b3, hw''⟩ := hw'
      subst hw''
      have HI3 : Hid (PutIn w t u a ua c uc b3.now) := HI.out.below b3.below
      have r0 := HI3.out.r.c0; have r1 := HI3.out.r.c1; have r2 := HI3.out.r.c2
      have f0 := HI3.out.r.f (k := 0); have f1 := HI3.out.r.f (k := 1); have f2 := HI3.out.r.f (k := 2)
      clear d0 d1 hne p0 b2
      go_wp2
      refine ret_pair rfl rfl (HI3.out.r.all (x := (⟨#[]⟩, 0)) _) rfl ?_
      rw [HN.out]
      exact ⟨none, 0, rfl, (own_none _ _).own, sets_below HI3.out.low (by omega) _ _ _⟩
    · obtain ⟨n, rfl⟩ : ∃ n : Nat, i = n := ⟨i.toNat, by omega⟩
      have hd : decide ((n : Int) < 0) = false := by simp
      by_cases hge : lenF t.2 ≤ n
      · have hd2 : decide (lenF t.2 ≤ n) = true := by simp; omega
        have HN : Hid (putT u ((n : Int) :: p) t = none) := by
          show _ = _
          rw [putT, kidT_bad (by omega)]
        go_enter Try.func26, Try.ntmps26
        go_wp2_with (rw [hW])
        clear hW
        refine wp_region_later (by kernel_rfl) (by kernel_rfl) ?_
        repeat (go_big_quiet_step (fail))
        refine wpQuiet_nil ?_
        intro _ hw'
        obtain ⟨b3, hw''⟩ := hw'
        subst hw''
        have HI3 : Hid (PutIn w t u a ua c uc b3.now) := HI.out.below b3.below
        have r0 := HI3.out.r.c0; have r1 := HI3.out.r.c1; have r2 := HI3.out.r.c2
        have f0 := HI3.out.r.f (k := 0); have f1 := HI3.out.r.f (k := 1); have f2 := HI3.out.r.f (k := 2)
        clear d0 d1 hne p0 b2
        go_wp2
        refine ret_pair rfl rfl (HI3.out.r.all (x := (⟨#[]⟩, 0)) _) rfl ?_
        rw [HN.out]
        exact ⟨none, 0, rfl, (own_none _ _).own, sets_below HI3.out.low (by omega) _ _ _⟩
      · have hd2 : decide (lenF t.2 ≤ n) = false := by simp; omega
        obtain ⟨g, q, rfl, hkk⟩ := HT.out.args.get (by omega)
        obtain ⟨y, a2, c2, l2, kd⟩ := hkk.kid (k := n) (by omega)
        obtain ⟨B1, O1, sp⟩ := kd.split
        have HU1 : Hid ((kidsL t.2)[n]? = some (y, l2)) := kids_split sp
        have HKT : Hid (TmAt w y a2 c2 l2) := kd.at_
        have kd' := kd.below HI.out.low
        have k0 := kd'.name; have k1 := kd'.sym; have k2 := kd'.list
        have hn0 : (0 : Int) ≤ (n : Int) := by omega
        have hnn : (n : Int) < (lenF t.2 : Int) := by omega
        have HTail : Hid (∀ pa', (pc ≠ 1 → pa' = some ⟨pb, po + 1, none⟩) → IntsAt w pa' p.length p) := fun pa' h => by
          refine ⟨rfl, fun j hj => ⟨pb, po + 1, h (by omega), ?_⟩⟩
          obtain ⟨b, off, e, hc⟩ := HP.out.cells (j + 1) (by simp; omega)
          cases e
          rw [show po + 1 + j = po + (j + 1) by omega, hc]
          simp
        have x0 := HI.out.u.c0; have x1 := HI.out.u.c1; have x2 := HI.out.u.c2
        clear hkk kd sp kd'
        go_enter Try.func26, Try.ntmps26
        go_wp2_with (rw [hW])
        clear hW
        refine wp_region_later (by kernel_rfl) (by kernel_rfl) ?_
        repeat (go_big_quiet_step (fail))
        refine wpQuiet_nil ?_
        intro _ hw'
        obtain ⟨b3, hw''⟩ := hw'
        subst hw''
        have HI3 : Hid (PutIn w t u (some ⟨g, q, none⟩) ua c uc b3.now) := HI.out.below b3.below
        have e0 := later_cell k0 b3
        have e1 := later_cell k1 b3
        have e2 := later_cell k2 b3
        have p1 := d0 b3
        have b1 := d1 b3
        have y0 := later_cell x0 b3
        have y1 := later_cell x1 b3
        have y2 := later_cell x2 b3
        have hsz3 := b3.below.size
        obtain ⟨W9, hW9⟩ : ∃ W9, b3.now = W9 := ⟨_, rfl⟩
        rw [hW9] at HI3 e0 e1 e2 p1 b1 y0 y1 y2 hsz3 ⊢
        clear hW9 d0 d1 hne p0 b2 k0 k1 k2 x0 x1 x2 HI
        obtain ⟨r, hr⟩ : ∃ r, putT u p (y, l2) = r := ⟨_, rfl⟩
        have HR : Hid (putT u p (y, l2) = r) := hr
        have HIH : Hid (∀ W' pa' pc', Below w.heap.size w W' → IntsAt w pa' p.length p → p.length ≤ pc' → pc' ≤ 9223372036854775807 → Calls Try.prog 26 #[.agg #[.string y.1, .int .i64 y.2, .slice a2 (lenF l2) c2], .slice pa' p.length pc', .agg #[.string u.1.1, .int .i64 u.1.2, .slice ua (lenF u.2) uc]] W' fun e w' => ∃ a' c', e = .returned (.tuple #[.agg #[.string (ansT r).1.1, .int .i64 (ansT r).1.2, .slice a' (lenF (ansT r).2) c'], .int .i64 (ansE r)]) ∧ OwnTm false (fun q => W'.heap.size ≤ q) w' (ansT r).1 a' c' (ansT r).2 ∧ Below W'.heap.size W' w') := fun W' pa' pc' hbl h1 h2 h3 => by
          have := IH.out (y, l2) u a2 ua c2 uc pa' p.length pc' W' (HKT.out.below hbl) (HU.out.below hbl) (h1.below hbl) h2 h3
          rw [hr] at this
          exact this
        obtain ⟨xr, hxr⟩ : ∃ xr, ansT r = xr := ⟨_, rfl⟩
        obtain ⟨er, her⟩ : ∃ er, ansE r = er := ⟨_, rfl⟩
        rw [hxr, her] at HIH
        have HXR : Hid (ansT r = xr) := hxr
        have HER : Hid (ansE r = er) := her
        have hpo : Hid (Below w.heap.size w W9) := HI3.out.low
        clear hr hxr her
        go_upto_region 5 with fail
        go_cut [8, 9] (fun v8 v9 wc => ∃ B8 a' c', v8 = .pointer (some ⟨B8, 0, none⟩) ∧ v9 = .int .i64 er ∧ TBox wc B8 xr.1 a' (lenF xr.2) c' ∧ OwnTm false (fun q => W9.heap.size ≤ q) wc xr.1 a' c' xr.2 ∧ Below W9.heap.size W9 wc)
        case first =>
          by_cases hpc1 : pc = 1
          · subst hpc1
            have hs1 : (1 : Int) ≤ (p.length : Int) + 1 := by omega
            have hs2 : (p.length : Int) + 1 ≤ (1 : Int) := by omega
            have HIH0 : Hid (∀ W', Below w.heap.size w W' → Calls Try.prog 26 #[.agg #[.string y.1, .int .i64 y.2, .slice a2 (lenF l2) c2], .slice (some ⟨pb, po, none⟩) 0 0, .agg #[.string u.1.1, .int .i64 u.1.2, .slice ua (lenF u.2) uc]] W' fun e w' => ∃ a' c', e = .returned (.tuple #[.agg #[.string xr.1.1, .int .i64 xr.1.2, .slice a' (lenF xr.2) c'], .int .i64 er]) ∧ OwnTm false (fun q => W'.heap.size ≤ q) w' xr.1 a' c' xr.2 ∧ Below W'.heap.size W' w') := fun W' hb => by
              have hp0 : p.length = 0 := by omega
              have := HIH.out W' (some ⟨pb, po, none⟩) 0 hb (HTail.out _ (fun h => absurd rfl h)) (by omega) (by omega)
              rw [hp0] at this
              exact this
            go_region_held3 (fun w' => w'.cell? ⟨w.heap.size, 2, none⟩ = some (.slice (some ⟨g, q, none⟩) (lenF t.2) c) ∧ w'.cell? ⟨pb, po, none⟩ = some (.int .i64 n) ∧ w'.cell? ⟨g, q + n * 3, none⟩ = some (.string y.1) ∧ w'.cell? ⟨g, q + n * 3 + 1, none⟩ = some (.int .i64 y.2) ∧ w'.cell? ⟨g, q + n * 3 + 2, none⟩ = some (.slice a2 (lenF l2) c2) ∧ w'.cell? ⟨w.heap.size + 1, 0, none⟩ = some (.string u.1.1) ∧ w'.cell? ⟨w.heap.size + 1, 1, none⟩ = some (.int .i64 u.1.2) ∧ w'.cell? ⟨w.heap.size + 1, 2, none⟩ = some (.slice ua (lenF u.2) uc)) ((first | (go_split_ands; refine ⟨?_, ?_, ?_, ?_, ?_, ?_, ?_, ?_⟩ <;> (refine below_cell HB2.out _ _ ?_; assumption)) | (go_split_ands; refine ⟨?_, ?_, ?_, ?_, ?_, ?_, ?_, ?_⟩ <;> (refine below_cell (HB2.out.alloc HB2.out.size _) _ _ ?_; assumption)) | (go_split_ands; refine ⟨?_, ?_, ?_, ?_, ?_, ?_, ?_, ?_⟩ <;> (refine below_cell (sets_below HB2.out (Nat.le_refl _) _ _ _) _ _ ?_; assumption)) | (go_split_ands; refine ⟨?_, ?_, ?_, ?_, ?_, ?_, ?_, ?_⟩ <;> (refine below_cell ((Below.refl _ W9).alloc (Nat.le_refl _) _) _ _ ?_; assumption)) | go_keep | fail)) ((first | (go_at_call 26; refine (HIH0.out (World.drew W9) hpo.out.drew).mono ?_; rintro e w2 ⟨a', c', rfl, hT2, hb2⟩; have HT2 : Hid (OwnTm false (fun q => W9.heap.size ≤ q) w2 xr.1 a' c' xr.2) := hT2; have HB2 : Hid (Below W9.heap.size W9 w2) := ((Below.refl _ W9).drew).trans hb2; clear hT2 hb2) | (go_at_call 26; refine (HIH0.out (World.drew (World.alloc W9 (.cells #[.string ⟨#[]⟩, .int .i64 0, .slice none 0 0] 26))) (hpo.out.alloc hpo.out.size _).drew).mono ?_; rintro e w2 ⟨a', c', rfl, hT2, hb2⟩; have HT2 : Hid (OwnTm false (fun q => W9.heap.size < q) w2 xr.1 a' c' xr.2) := hT2.mono (fun q _ hq => by rw [show (World.drew (World.alloc W9 (.cells #[.string ⟨#[]⟩, .int .i64 0, .slice none 0 0] 26))).heap.size = W9.heap.size + 1 from World.size_alloc _ _] at hq; omega); have HB2 : Hid (Below W9.heap.size W9 w2) := (((Below.refl _ W9).alloc (Nat.le_refl _) _).drew).trans (hb2.mono (by show _ ≤ (W9.alloc _).heap.size; rw [World.size_alloc]; omega)); have HX2 : Hid (XBox w2 W9.heap.size (⟨#[]⟩, 0) (.slice none 0 0)) := XBox.below (W := World.drew (World.alloc W9 (.cells #[.string ⟨#[]⟩, .int .i64 0, .slice none 0 0] 26))) (heap_alloc_new W9 _) hb2; have z0 := HX2.out.c0; have z1 := HX2.out.c1; have z2 := HX2.out.c2; have zf0 := HX2.out.f (k := 0); have zf1 := HX2.out.f (k := 1); have zf2 := HX2.out.f (k := 2); clear hT2 hb2) | fail))
            all_goals (go_wp2_with fail; go_meet)
            all_goals first
              | exact ⟨w2.heap.size, a', c', rfl, rfl, TBox.new _ _ _ _ _, HT2.out.below ((Below.refl _ _).alloc (Nat.le_refl _) _), HB2.out.alloc HB2.out.size _⟩
              | exact ⟨W9.heap.size, a', c', rfl, rfl, HX2.out.all (x := xr.1) _, (HT2.out.keep (fun q hq _ => sets_far (by omega) _ _ _)).mono (fun q _ hq => by omega), sets_below HB2.out (Nat.le_refl _) _ _ _⟩
          · have hs1 : (1 : Int) ≤ (p.length : Int) + 1 := by omega
            have hs2 : (p.length : Int) + 1 ≤ (pc : Int) := by omega
            have hs3 : (1 : Int) ≤ (pc : Int) := by omega
            go_region_held3 (fun w' => w'.cell? ⟨w.heap.size, 2, none⟩ = some (.slice (some ⟨g, q, none⟩) (lenF t.2) c) ∧ w'.cell? ⟨pb, po, none⟩ = some (.int .i64 n) ∧ w'.cell? ⟨g, q + n * 3, none⟩ = some (.string y.1) ∧ w'.cell? ⟨g, q + n * 3 + 1, none⟩ = some (.int .i64 y.2) ∧ w'.cell? ⟨g, q + n * 3 + 2, none⟩ = some (.slice a2 (lenF l2) c2) ∧ w'.cell? ⟨w.heap.size + 1, 0, none⟩ = some (.string u.1.1) ∧ w'.cell? ⟨w.heap.size + 1, 1, none⟩ = some (.int .i64 u.1.2) ∧ w'.cell? ⟨w.heap.size + 1, 2, none⟩ = some (.slice ua (lenF u.2) uc)) ((first | (go_split_ands; refine ⟨?_, ?_, ?_, ?_, ?_, ?_, ?_, ?_⟩ <;> (refine below_cell HB2.out _ _ ?_; assumption)) | (go_split_ands; refine ⟨?_, ?_, ?_, ?_, ?_, ?_, ?_, ?_⟩ <;> (refine below_cell (HB2.out.alloc HB2.out.size _) _ _ ?_; assumption)) | (go_split_ands; refine ⟨?_, ?_, ?_, ?_, ?_, ?_, ?_, ?_⟩ <;> (refine below_cell (sets_below HB2.out (Nat.le_refl _) _ _ _) _ _ ?_; assumption)) | (go_split_ands; refine ⟨?_, ?_, ?_, ?_, ?_, ?_, ?_, ?_⟩ <;> (refine below_cell ((Below.refl _ W9).alloc (Nat.le_refl _) _) _ _ ?_; assumption)) | go_keep | fail)) ((first | (go_at_call 26; refine (HIH.out (World.drew W9) _ _ hpo.out.drew (HTail.out _ (fun _ => rfl)) (by omega) (by omega)).mono ?_; rintro e w2 ⟨a', c', rfl, hT2, hb2⟩; have HT2 : Hid (OwnTm false (fun q => W9.heap.size ≤ q) w2 xr.1 a' c' xr.2) := hT2; have HB2 : Hid (Below W9.heap.size W9 w2) := ((Below.refl _ W9).drew).trans hb2; clear hT2 hb2) | (go_at_call 26; refine (HIH.out (World.drew (World.alloc W9 (.cells #[.string ⟨#[]⟩, .int .i64 0, .slice none 0 0] 26))) _ _ (hpo.out.alloc hpo.out.size _).drew (HTail.out _ (fun _ => rfl)) (by omega) (by omega)).mono ?_; rintro e w2 ⟨a', c', rfl, hT2, hb2⟩; have HT2 : Hid (OwnTm false (fun q => W9.heap.size < q) w2 xr.1 a' c' xr.2) := hT2.mono (fun q _ hq => by rw [show (World.drew (World.alloc W9 (.cells #[.string ⟨#[]⟩, .int .i64 0, .slice none 0 0] 26))).heap.size = W9.heap.size + 1 from World.size_alloc _ _] at hq; omega); have HB2 : Hid (Below W9.heap.size W9 w2) := (((Below.refl _ W9).alloc (Nat.le_refl _) _).drew).trans (hb2.mono (by show _ ≤ (W9.alloc _).heap.size; rw [World.size_alloc]; omega)); have HX2 : Hid (XBox w2 W9.heap.size (⟨#[]⟩, 0) (.slice none 0 0)) := XBox.below (W := World.drew (World.alloc W9 (.cells #[.string ⟨#[]⟩, .int .i64 0, .slice none 0 0] 26))) (heap_alloc_new W9 _) hb2; have z0 := HX2.out.c0; have z1 := HX2.out.c1; have z2 := HX2.out.c2; have zf0 := HX2.out.f (k := 0); have zf1 := HX2.out.f (k := 1); have zf2 := HX2.out.f (k := 2); clear hT2 hb2) | fail))
            all_goals (go_wp2_with fail; go_meet)
            all_goals first
              | exact ⟨w2.heap.size, a', c', rfl, rfl, TBox.new _ _ _ _ _, HT2.out.below ((Below.refl _ _).alloc (Nat.le_refl _) _), HB2.out.alloc HB2.out.size _⟩
              | exact ⟨W9.heap.size, a', c', rfl, rfl, HX2.out.all (x := xr.1) _, (HT2.out.keep (fun q hq _ => sets_far (by omega) _ _ _)).mono (fun q _ hq => by omega), sets_below HB2.out (Nat.le_refl _) _ _ _⟩
        case rest =>
          obtain ⟨B8, a8, c8, rfl, rfl, hB8, hT8, hb8⟩ := hcut
          have HB8 : Hid (TBox wc B8 xr.1 a8 (lenF xr.2) c8) := hB8
          have HT8 : Hid (OwnTm false (fun q => W9.heap.size ≤ q) wc xr.1 a8 c8 xr.2) := hT8
          have HI8 : Hid (PutIn w t u (some ⟨g, q, none⟩) ua c uc wc) := HI3.out.below hb8
          have hsz8 := hb8.size
          clear hB8 hT8 hb8 e0 e1 e2 p1 b1 y0 y1 y2 HIH
          cases r with
          | none =>
            obtain rfl : er = 35 := HER.out.symm
            have HN : Hid (putT u ((n : Int) :: p) t = none) := put_cons_none (by omega) HU1.out HR.out
            have r0 := HI8.out.r.c0; have r1 := HI8.out.r.c1; have r2 := HI8.out.r.c2
            have f0 := HI8.out.r.f (k := 0); have f1 := HI8.out.r.f (k := 1); have f2 := HI8.out.r.f (k := 2)
            go_wp2
            refine ret_pair rfl rfl (HI8.out.r.all (x := (⟨#[]⟩, 0)) _) rfl ?_
            rw [HN.out]
            exact ⟨none, 0, rfl, (own_none _ _).own, sets_below HI8.out.low (by omega) _ _ _⟩
          | some k' =>
            obtain rfl : er = 0 := HER.out.symm
            obtain rfl : xr = k' := HXR.out.symm
            have HN : Hid (putT u ((n : Int) :: p) t = some (t.1, setF n t.2 xr)) := put_cons_some (by omega) HU1.out HR.out
            have x0 := HI8.out.t.c0; have x1 := HI8.out.t.c1; have x2 := HI8.out.t.c2
            go_wp2_with fail
            refine (rclone_any t.1 t.2 (some ⟨g, q, none⟩) c wc (HT.out.below HI8.out.low)).mono ?_
            rintro e w4 ⟨a4, c4, rfl, hR4, hb4⟩
            rcases hR4.list with hnil | ⟨g4, cur, rfl, hg4, hcur, hkids⟩
            · rw [hnil] at hge; simp [lenF] at hge
            · obtain ⟨W4, hW4⟩ : ∃ W4, w4.alloc (.cells #[.string t.1.1, .int .i64 t.1.2, .slice (some ⟨g4, 0, none⟩) (lenF t.2) c4] 26) = W4 := ⟨_, rfl⟩
              have hbW : Below w4.heap.size w4 W4 := by rw [← hW4]; exact (Below.refl _ _).alloc (Nat.le_refl _) _
              have hbC : Below wc.heap.size wc W4 := hb4.trans (hbW.mono hb4.size)
              have hg4lt : g4 < w4.heap.size := (Array.getElem?_eq_some_iff.1 hcur).1
              have hcur4 : W4.heap[g4]? = some (Obj.cells cur 26 (0, 0)) := (hbW.block g4 hg4lt).trans hcur
              have hkids4 : OwnKids false (fun q => wc.heap.size ≤ q ∧ q ≠ g4) W4 t.2 g4 0 := hkids.keep (fun k _ hlt => hbW.block k hlt) (hbW.block g4 hg4lt)
              have HB10 : Hid (TBox W4 w4.heap.size t.1 (some ⟨g4, 0, none⟩) (lenF t.2) c4) := by show TBox _ _ _ _ _ _; rw [← hW4]; exact TBox.new _ _ _ _ _
              have HI4 : Hid (PutIn w t u (some ⟨g, q, none⟩) ua c uc W4) := HI8.out.below hbC
              have HB84 : Hid (TBox W4 B8 xr.1 a8 (lenF xr.2) c8) := HB8.out.below hbC
              have hP0 : w.cell? ⟨pb, po, none⟩ = some (.int .i64 n) := by
                obtain ⟨b, off, e, hc⟩ := HP.out.cells 0 (by simp)
                cases e
                exact hc
              have p4 := below_cell HI4.out.low _ _ hP0
              obtain ⟨y4, a5, c5, l5, kd⟩ := hkids4.kids.kid (k := n) (by omega)
              have k0 := kd.name; have k1 := kd.sym; have k2 := kd.list
              rw [Nat.zero_add] at k0 k1 k2
              have hcz := cell_size hcur4 k2
              have f0 := row_frozen (i := n * 3) hcur4
              have f1 := row_frozen (i := n * 3 + 1) hcur4
              have f2 := row_frozen (i := n * 3 + 2) hcur4
              have v0 := HB84.out.c0; have v1 := HB84.out.c1; have v2 := HB84.out.c2
              have s2 := HB10.out.c2
              have hg40 : w.heap.size + 1 + 1 + 1 ≤ g4 := by omega
              have hwc := hb4.size
              obtain ⟨W5, hW5⟩ : ∃ W5, ((W4.setCell ⟨g4, n * 3, none⟩ (.string xr.1.1)).setCell ⟨g4, n * 3 + 1, none⟩ (.int .i64 xr.1.2)).setCell ⟨g4, n * 3 + 2, none⟩ (.slice a8 (lenF xr.2) c8) = W5 := ⟨_, rfl⟩
              have hlow5 : Below w.heap.size w W5 := by rw [← hW5]; exact sets_low HI4.out.low (by omega) _ _ _
              have hlowC : Below wc.heap.size wc W5 := by rw [← hW5]; exact sets_low hbC hg4 _ _ _
              have hr5 : XBox W5 (w.heap.size + 1 + 1) (⟨#[]⟩, 0) (.slice none 0 0) := by rw [← hW5]; exact (sets_elsewhere (by omega)).trans HI4.out.r
              have hB5 : TBox W5 w4.heap.size t.1 (some ⟨g4, 0, none⟩) (lenF t.2) c4 := by rw [← hW5]; exact (sets_elsewhere (by omega)).trans HB10.out
              obtain ⟨cur5, hcur5⟩ : ∃ cur5, W5.heap[g4]? = some (Obj.cells cur5 26 (0, 0)) := ⟨_, by rw [← hW5]; exact block_set (block_set (block_set hcur4 _) _) _⟩
              obtain ⟨z0, z1, z2⟩ := sets_cells (a := .string xr.1.1) (b := .int .i64 xr.1.2) (c := .slice a8 (lenF xr.2) c8) hcur4 (n := n * 3) (by omega)
              have hrep : OwnKids false (fun q => w.heap.size + 1 + 1 + 1 ≤ q) W5 (setF n t.2 xr) g4 0 := by
                have hw0 := HI8.out.low.size
                refine OwnKids.replace (W := W4) (W' := W5) (a' := a8) (c' := c8) (P := fun q => wc.heap.size ≤ q ∧ q ≠ g4) (fun k hk => by omega) (fun k hk _ => by rw [← hW5]; exact sets_elsewhere hk.2) ((HT8.out.below hlowC).mono (fun q _ hq => by have := HI3.out.low.size; omega)) n hkids4 (by omega) (fun j v _ hj hv => by rw [← hW5]; exact sets_outside (by omega) hv) ?_
                rw [Nat.zero_add, ← hW5]
                exact ⟨z0, z1, z2⟩
              have HO5 : Hid (OwnTm false (fun q => w.heap.size + 1 + 1 + 1 ≤ q) W5 t.1 (some ⟨g4, 0, none⟩) c4 (setF n t.2 xr)) := ⟨by rw [len_set]; exact hR4.sizes, .inr ⟨g4, _, rfl, by omega, hcur5, (fun e => by cases e), hrep⟩⟩
              have HR5 : Hid (XBox W5 (w.heap.size + 1 + 1) (⟨#[]⟩, 0) (.slice none 0 0)) := hr5
              have HB5 : Hid (TBox W5 w4.heap.size t.1 (some ⟨g4, 0, none⟩) (lenF t.2) c4) := hB5
              have HL5 : Hid (Below w.heap.size w W5) := hlow5
              have HW5 : Hid (((W4.setCell ⟨g4, n * 3, none⟩ (.string xr.1.1)).setCell ⟨g4, n * 3 + 1, none⟩ (.int .i64 xr.1.2)).setCell ⟨g4, n * 3 + 2, none⟩ (.slice a8 (lenF xr.2) c8) = W5) := hW5
              clear hkids4 hkids hcur hcur4 hR4 hb4 hbW hbC hlow5 hlowC hr5 hB5 hcur5 z0 z1 z2 hrep hW5 kd hP0 x0 x1 x2
              go_wp2_with (rw [hW4])
              clear hW4
              go_region
              all_goals
                have y0 : W5.drew.cell? ⟨w4.heap.size, 0, none⟩ = _ := HB5.out.c0
                have y1 : W5.drew.cell? ⟨w4.heap.size, 1, none⟩ = _ := HB5.out.c1
                have y2 : W5.drew.cell? ⟨w4.heap.size, 2, none⟩ = _ := HB5.out.c2
                have r0 : W5.drew.cell? ⟨w.heap.size + 1 + 1, 0, none⟩ = _ := HR5.out.c0
                have r1 : W5.drew.cell? ⟨w.heap.size + 1 + 1, 1, none⟩ = _ := HR5.out.c1
                have r2 : W5.drew.cell? ⟨w.heap.size + 1 + 1, 2, none⟩ = _ := HR5.out.c2
                have g0 : W5.drew.frozen? ⟨w.heap.size + 1 + 1, 0, none⟩ = _ := HR5.out.f (k := 0)
                have g1 : W5.drew.frozen? ⟨w.heap.size + 1 + 1, 1, none⟩ = _ := HR5.out.f (k := 1)
                have g2 : W5.drew.frozen? ⟨w.heap.size + 1 + 1, 2, none⟩ = _ := HR5.out.f (k := 2)
                rw [HW5.out]
                obtain ⟨W6, hW6⟩ : ∃ W6, W5.drew = W6 := ⟨_, rfl⟩
                have HO6 : Hid (OwnTm false (fun q => w.heap.size + 1 + 1 + 1 ≤ q) W6 t.1 (some ⟨g4, 0, none⟩) c4 (setF n t.2 xr)) := by show OwnTm _ _ _ _ _ _ _; rw [← hW6]; exact HO5.out.below ((Below.refl _ _).drew)
                have HR6 : Hid (XBox W6 (w.heap.size + 1 + 1) (⟨#[]⟩, 0) (.slice none 0 0)) := by show XBox _ _ _ _; rw [← hW6]; exact HR5.out
                have HL6 : Hid (Below w.heap.size w W6) := by show Below _ _ _; rw [← hW6]; exact HL5.out.drew
                rw [hW6] at y0 y1 y2 r0 r1 r2 g0 g1 g2 ⊢
                clear hW6
                go_wp2
                refine ret_pair rfl rfl (HR6.out.all (x := t.1) _) rfl ?_
                rw [HN.out]
                refine ⟨some ⟨g4, 0, none⟩, c4, (by rw [show ansV (some (t.1, setF n t.2 xr)) (some ⟨g4, 0, none⟩) c4 = .tuple #[.agg #[.string t.1.1, .int .i64 t.1.2, .slice (some ⟨g4, 0, none⟩) (lenF t.2) c4], .int .i64 0] by simp only [ansV, ansT, ansE, Option.getD_some, len_set]]; rfl), ?_, sets_below HL6.out (by omega) _ _ _⟩
                exact (HO6.out.keep (fun q hq _ => sets_far (by omega) _ _ _)).mono (fun q _ hq => by omega)
end Go.Proofs.Ytokbgbbkopmngaa
