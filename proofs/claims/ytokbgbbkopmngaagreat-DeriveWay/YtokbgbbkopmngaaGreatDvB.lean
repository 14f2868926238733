/- A place: placeAt, lay. -/
import Derived.Test.YtokbgbbkopmngaaGreatDvA
import Derived.Deep.RegionHeld3
import Derived.Deep.DeepCutAuto
namespace Go.Proofs.YtokbgbbkopmngaaGreat
open Go.RowKit Go.Deep

theorem sets4_box {W : World} {B : Nat} {y0 y1 y2 y3 : Value} (h : Box W B 76 #[y0, y1, y2, y3]) (x0 x1 x2 x3 : Value) : Box ((((W.setCell ⟨B, 0, none⟩ x0).setCell ⟨B, 1, none⟩ x1).setCell ⟨B, 2, none⟩ x2).setCell ⟨B, 3, none⟩ x3) B 76 #[x0, x1, x2, x3] := by
  have h0 : Box (W.setCell ⟨B, 0, none⟩ x0) B 76 #[x0, y1, y2, y3] := block_set (k := 0) h x0
  have h1 : Box ((W.setCell ⟨B, 0, none⟩ x0).setCell ⟨B, 1, none⟩ x1) B 76 #[x0, x1, y2, y3] := block_set (k := 1) h0 x1
  have h2 : Box (((W.setCell ⟨B, 0, none⟩ x0).setCell ⟨B, 1, none⟩ x1).setCell ⟨B, 2, none⟩ x2) B 76 #[x0, x1, x2, y3] := block_set (k := 2) h1 x2
  exact block_set (k := 3) h2 x3
theorem sets4_below {n0 : Nat} {w W : World} {B : Nat} (hb : Below n0 w W) (h : n0 ≤ B) (x0 x1 x2 x3 : Value) : Below n0 w ((((W.setCell ⟨B, 0, none⟩ x0).setCell ⟨B, 1, none⟩ x1).setCell ⟨B, 2, none⟩ x2).setCell ⟨B, 3, none⟩ x3) :=
  (((hb.setCell (p := ⟨B, 0, none⟩) h _).setCell (p := ⟨B, 1, none⟩) h _).setCell (p := ⟨B, 2, none⟩) h _).setCell (p := ⟨B, 3, none⟩) h _

set_option maxRecDepth 100000 in
set_option maxHeartbeats 4000000 in
theorem placeAt_any (S : Option Addr) (n cap b o : Nat) (L : List Sym) (x : ByteArray × Int) (a : Option Addr) (m c : Nat) (w : World) (hS : SigAt w S n L) (hN : Nd w b o x a m c) :
    Calls Tryz.prog 37 #[.slice S n cap, .pointer (some ⟨b, o, none⟩)] w fun e w' => e = .returned (placeV S n cap b o (unitI L x.2) (unitOk L x.2)) ∧ Below w.heap.size w w' := by
  obtain ⟨W0, hW0⟩ : ∃ W0, w.alloc (.cells #[.slice none 0 0, .pointer none, .int .i64 0, .bool false] 76) = W0 := ⟨_, rfl⟩
  have hb0 : Below w.heap.size w W0 := by rw [← hW0]; exact alloc_below0 _ _
  have B0 : Box W0 w.heap.size 76 #[.slice none 0 0, .pointer none, .int .i64 0, .bool false] := by rw [← hW0]; exact Box.new _ _ _
  have hN0 := hN.below hb0
  have e1 := hN0.sym
  have hS0 : SigAt W0 S n L := hS.below hb0
  have hU := sunit_any S n cap L x.2 W0 hS0
  have HB := hid hb0
  have HBX := hid B0
  clear hb0 B0 hN0 hS hN hS0
  go_enter Tryz.func37, Tryz.ntmps37
  go_wp2_with fail
  clear hW0
  refine hU.mono ?_
  rintro e w2 ⟨he, hb2⟩
  unfold UnitRet at he
  subst he
  have B2 : Box w2 w.heap.size 76 #[.slice none 0 0, .pointer none, .int .i64 0, .bool false] := HBX.out.below hb2
  have c0 := B2.v (k := 0) rfl; have c1 := B2.v (k := 1) rfl; have c2 := B2.v (k := 2) rfl; have c3 := B2.v (k := 3) rfl
  have f0 := B2.f 0; have f1 := B2.f 1; have f2 := B2.f 2; have f3 := B2.f 3
  have HB2 := hid (HB.out.trans (hb2.mono HB.out.size))
  have HX2 := hid B2
  clear hU e1 hb2 B2 HB HBX
  go_wp2
  refine bodyPost_ret (results_cell_row rfl _ _ w.heap.size 76 #[.slice S n cap, .pointer (some ⟨b, o, none⟩), .int .i64 (unitI L x.2), .bool (unitOk L x.2)] (0, 0) _ rfl (sets4_box HX2.out _ _ _ _) Tryz.underlying76 rfl Tryz.size76) rfl ?_
  exact ⟨rfl, sets4_below HB2.out (Nat.le_refl _) _ _ _ _⟩

/-- What lay leaves. -/
def LayEnd (w : World) (b o : Nat) (cur : Array Value) (a : Option Addr) (ks : List Kv) (w' : World) : Prop := ∃ g' c', RowV w' g' c' ks ∧ w'.heap[b]? = some (.cells (cur.setIfInBounds (o + 2) (.slice (some ⟨g', 0, none⟩) ks.length c')) 26 (0, 0)) ∧
  Fr (fun q => a.map Addr.block = some q ∨ q = b) w w' ∧ (a.map Addr.block = some g' ∨ w.heap.size ≤ g')

set_option maxRecDepth 100000 in
set_option maxHeartbeats 4000000 in
theorem lay_rep (S : Option Addr) (n cap b o : Nat) (u : Int) (h : Bool) (i m : Nat) (va : Option Addr) (vc : Nat) (vs ks : List Kv) (g c : Nat) (cur : Array Value) (w : World)
    (hcur : w.heap[b]? = some (.cells cur 26 (0, 0))) (hl : cur[o + 2]? = some (.slice (some ⟨g, 0, none⟩) ks.length c)) (hR : RowV w g c ks) (hV : SrcV w g va vc vs) (hbg : b ≠ g) (hm : 0 < m) (hj : i + m ≤ ks.length) (hks : ks.length ≤ 1048576) (hvs : vs.length ≤ 1048576) :
    Calls Tryz.prog 88 #[placeV S n cap b o u h, .int .i64 i, .int .i64 m, .slice va vs.length vc] w fun e w' => (∃ v, e = .returned v) ∧ LayEnd w b o cur (some ⟨g, 0, none⟩) (layK ks i (i + m) vs) w' := by
  obtain ⟨W0, hW0⟩ : ∃ W0, w.alloc (.cells #[.slice S n cap, .pointer (some ⟨b, o, none⟩), .int .i64 u, .bool h] 76) = W0 := ⟨_, rfl⟩
  have hb0 : Below w.heap.size w W0 := by rw [← hW0]; exact alloc_below0 _ _
  have B0 : Box W0 w.heap.size 76 #[.slice S n cap, .pointer (some ⟨b, o, none⟩), .int .i64 u, .bool h] := by rw [← hW0]; exact Box.new _ _ _
  have hbw : b < w.heap.size := (Array.getElem?_eq_some_iff.1 hcur).1
  have hcur0 : W0.heap[b]? = some (.cells cur 26 (0, 0)) := (hb0.block b hbw).trans hcur
  have hR0 : RowV W0.drew g c ks := hR.keep (hb0.block g hR.lt)
  have hV0 : SrcV W0.drew g va vc vs := hV.keep (fun q _ hq => hb0.block q hq)
  have hC := replace_any g c i (i + m) ks va vc vs W0.drew hR0 hV0 (by omega) hj hks hvs
  have d1 := B0.v (k := 1) rfl
  have e2 : W0.cell? ⟨b, o + 2, none⟩ = some (.slice (some ⟨g, 0, none⟩) ks.length c) := cell_box hcur0 hl
  have f2 : W0.frozen? ⟨b, o + 2, none⟩ = false := by simp [World.frozen?, hcur0]
  have hgw := hR.lt
  have hw : IntKind.i64.wrap ((i : Int) + m) = (i : Int) + m := by rw [IntKind.wrap_i64]; omega
  rw [show ((i + m : Nat) : Int) = (i : Int) + m by omega] at hC
  have HB := hid hb0
  have HC0 := hid hcur0
  have HBX := hid B0
  have hC2 : Calls Tryz.prog 104 #[.slice (some ⟨g, 0, none⟩) ks.length c, .int .i64 i, .int .i64 ((i : Int) + m), .slice va vs.length vc] W0.drew fun e w2 => ∃ g' c', e = .returned (.slice (some ⟨g', 0, none⟩) (layK ks i (i + m) vs).length c') ∧ w2.cell? ⟨w.heap.size, 1, none⟩ = some (.pointer (some ⟨b, o, none⟩)) ∧ w2.cell? ⟨b, o + 2, none⟩ = some (.slice (some ⟨g, 0, none⟩) ks.length c) ∧ w2.frozen? ⟨b, o + 2, none⟩ = false ∧
      Hid (RowV w2 g' c' (layK ks i (i + m) vs) ∧ Fr (fun q => q = g) W0 w2 ∧ (g' = g ∨ W0.heap.size ≤ g') ∧ w2.heap[b]? = some (.cells cur 26 (0, 0))) := hC.mono fun e w2 ⟨g', c', he, hR2, hF2, hg2⟩ => by
    have hF2' : Fr (fun q => q = g) W0 w2 := Fr.trans (y := W0.drew) ⟨(Below.refl _ W0).drew, fun _ _ _ => rfl⟩ hF2
    have hX2 := B0.fr hF2' (by omega)
    have hc2 : w2.heap[b]? = some (.cells cur 26 (0, 0)) := (hF2'.same b (Nat.lt_of_lt_of_le hbw hb0.size) hbg).trans hcur0
    exact ⟨g', c', he, hX2.v rfl, cell_box hc2 hl, by simp [World.frozen?, hc2], hR2, hF2', hg2, hc2⟩
  have HC := hid hC2
  have HBG := hid hbg
  have HL := hid hl
  clear hb0 hcur0 hR hV hR0 hV0 B0 hcur hC hC2 hj hks hbg hl
  go_enter Tryz.func88, Tryz.ntmps88
  go_wp2_with fail
  go_region_with (first | (go_at_call 104; refine HC.out.mono ?_; rintro e w2 ⟨g', c', rfl, k1, k2, k3, K⟩) | fail)
  all_goals
    go_wp2
    go_end0
    obtain ⟨hR2, hF2, hg2, hc2⟩ := K.out
    refine ⟨⟨_, rfl⟩, g', c', hR2.keep (set_far (W := w2) (i := o + 2) ?_ _), block_set (k := o + 2) hc2 _, ⟨(HB.out.mono (Nat.zero_le _)).trans (hF2.low.trans ((Below.refl 0 w2).setCell (p := ⟨b, o + 2, none⟩) (Nat.zero_le _) _)), fun q hq hA => ?_⟩, ?_⟩
    · rcases hg2 with e | e
      · rw [e]; exact fun h => HBG.out h.symm
      · have := HB.out.size; omega
    · have h1 : q ≠ b := fun e => hA (.inr e)
      have h2 : q ≠ g := fun e => hA (.inl (by rw [e]; rfl))
      exact ((set_far (W := w2) (i := o + 2) h1 _).trans (hF2.same q (Nat.lt_of_lt_of_le hq HB.out.size) h2)).trans (HB.out.block q hq)
    · rcases hg2 with e | e
      · exact .inl (by rw [e]; rfl)
      · exact .inr (Nat.le_trans HB.out.size e)

end Go.Proofs.YtokbgbbkopmngaaGreat
