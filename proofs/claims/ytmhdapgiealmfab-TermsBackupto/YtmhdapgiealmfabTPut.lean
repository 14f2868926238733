/- What Put of package terms answers. -/
import Derived.Test.YtmhdapgiealmfabTAt
import Derived.Test.YtmhdapgiealmfabTSpoil
namespace Go.Proofs.Ytmhdapgiealmfab
open Go.RowKit Go.Deep

theorem put_none (u : Tn) : ∀ (ps : List Int) (t : Tn), subT ps t = none → putT u ps t = none
  | [], _, h => by simp [subT] at h
  | i :: p, t, h => by
    rw [subT] at h
    rw [putT]
    cases hk : kidT i t.2 with
    | none => rfl
    | some k =>
      rw [hk] at h
      simp only [put_none u p k h]
theorem sets_cells {W : World} {g n : Nat} {a b c : Value} {cur : Array Value} (h : W.heap[g]? = some (Obj.cells cur 24 (0, 0))) (hn : n + 3 ≤ cur.size) :
    (((W.setCell ⟨g, n, none⟩ a).setCell ⟨g, n + 1, none⟩ b).setCell ⟨g, n + 2, none⟩ c).cell? ⟨g, n, none⟩ = some a ∧ (((W.setCell ⟨g, n, none⟩ a).setCell ⟨g, n + 1, none⟩ b).setCell ⟨g, n + 2, none⟩ c).cell? ⟨g, n + 1, none⟩ = some b ∧ (((W.setCell ⟨g, n, none⟩ a).setCell ⟨g, n + 1, none⟩ b).setCell ⟨g, n + 2, none⟩ c).cell? ⟨g, n + 2, none⟩ = some c := by
  have h3 := block_set (k := n + 2) (block_set (k := n + 1) (block_set (k := n) h a) b) c
  rw [cell_of_row _ g n _ 24 (0, 0) h3, cell_of_row _ g (n + 1) _ 24 (0, 0) h3, cell_of_row _ g (n + 2) _ 24 (0, 0) h3]
  refine ⟨?_, ?_, ?_⟩ <;> simp [Array.getElem?_setIfInBounds] <;> omega
theorem cell_size {W : World} {g i : Nat} {cur : Array Value} {v : Value} (h : W.heap[g]? = some (Obj.cells cur 24 (0, 0))) (hc : W.cell? ⟨g, i, none⟩ = some v) : i < cur.size := by
  rw [cell_of_row _ g i _ 24 (0, 0) h] at hc
  exact (Array.getElem?_eq_some_iff.1 hc).1
theorem sets_outside {W : World} {g i n : Nat} {a b c : Value} {v : Value} (hi : i < n ∨ n + 3 ≤ i) (h : W.cell? ⟨g, i, none⟩ = some v) : (((W.setCell ⟨g, n, none⟩ a).setCell ⟨g, n + 1, none⟩ b).setCell ⟨g, n + 2, none⟩ c).cell? ⟨g, i, none⟩ = some v := by
  rw [World.cell?_setCell_other _ _ _ _ (fun e => by cases e; omega), World.cell?_setCell_other _ _ _ _ (fun e => by cases e; omega), World.cell?_setCell_other _ _ _ _ (fun e => by cases e; omega)]
  exact h
theorem sets_elsewhere {W : World} {g n q : Nat} {a b c : Value} (h : q ≠ g) : (((W.setCell ⟨g, n, none⟩ a).setCell ⟨g, n + 1, none⟩ b).setCell ⟨g, n + 2, none⟩ c).heap[q]? = W.heap[q]? :=
  ((Below.heap_setCell _ _ _ _ h).trans (Below.heap_setCell _ _ _ _ h)).trans (Below.heap_setCell _ _ _ _ h)
theorem sets_low {n0 : Nat} {w W : World} {g n : Nat} (hb : Below n0 w W) (h : n0 ≤ g) (a b c : Value) : Below n0 w (((W.setCell ⟨g, n, none⟩ a).setCell ⟨g, n + 1, none⟩ b).setCell ⟨g, n + 2, none⟩ c) :=
  ((hb.setCell (p := ⟨g, n, none⟩) h _).setCell (p := ⟨g, n + 1, none⟩) h _).setCell (p := ⟨g, n + 2, none⟩) h _

/-- The three boxes of Put. -/
structure PutIn (w : World) (t u : Tn) (a ua : Option Addr) (c uc : Nat) (W : World) : Prop where
  low : Below w.heap.size w W
  t : TBox W w.heap.size t.1 a (lenF t.2) c
  u : TBox W (w.heap.size + 1) u.1 ua (lenF u.2) uc
  r : XBox W (w.heap.size + 1 + 1) (⟨#[]⟩, 0) (.slice none 0 0)
theorem PutIn.new (w : World) (t u : Tn) (a ua : Option Addr) (c uc : Nat) : PutIn w t u a ua c uc (((w.alloc (.cells #[.string t.1.1, .int .i64 t.1.2, .slice a (lenF t.2) c] 24)).alloc (.cells #[.string u.1.1, .int .i64 u.1.2, .slice ua (lenF u.2) uc] 24)).alloc (.cells #[.string ⟨#[]⟩, .int .i64 0, .slice none 0 0] 24)) := by
  have P := Pair.new w t.1 a (lenF t.2) c u.1 ua (lenF u.2) uc
  have hb : Below ((w.alloc (.cells #[.string t.1.1, .int .i64 t.1.2, .slice a (lenF t.2) c] 24)).alloc (.cells #[.string u.1.1, .int .i64 u.1.2, .slice ua (lenF u.2) uc] 24)).heap.size ((w.alloc (.cells #[.string t.1.1, .int .i64 t.1.2, .slice a (lenF t.2) c] 24)).alloc (.cells #[.string u.1.1, .int .i64 u.1.2, .slice ua (lenF u.2) uc] 24)) _ := (Below.refl _ _).alloc (Nat.le_refl _) (.cells #[.string ⟨#[]⟩, .int .i64 0, .slice none 0 0] 24)
  refine ⟨P.low.alloc P.low.size _, P.l.below hb, P.r.below hb, ?_⟩
  have := heap_alloc_new ((w.alloc (.cells #[.string t.1.1, .int .i64 t.1.2, .slice a (lenF t.2) c] 24)).alloc (.cells #[.string u.1.1, .int .i64 u.1.2, .slice ua (lenF u.2) uc] 24)) (.cells #[.string ⟨#[]⟩, .int .i64 0, .slice none 0 0] 24)
  rw [World.size_alloc, World.size_alloc] at this
  exact this
theorem PutIn.below {w : World} {t u : Tn} {a ua : Option Addr} {c uc : Nat} {W W' : World} (h : PutIn w t u a ua c uc W) (hb : Below W.heap.size W W') : PutIn w t u a ua c uc W' := ⟨h.low.trans (hb.mono h.low.size), h.t.below hb, h.u.below hb, h.r.below hb⟩

set_option maxRecDepth 100000 in
set_option maxHeartbeats 2000000 in
theorem put_any (ps : List Int) (t u : Tn) (a ua : Option Addr) (c uc : Nat) (pa : Option Addr) (pn pc : Nat) (w : World) (hT : TmAt w t.1 a c t.2) (hU : TmAt w u.1 ua uc u.2) (hP : IntsAt w pa pn ps) (hpn : pn ≤ 9223372036854775807) :
    Calls Try.prog 6 #[.agg #[.string t.1.1, .int .i64 t.1.2, .slice a (lenF t.2) c], .slice pa pn pc, .agg #[.string u.1.1, .int .i64 u.1.2, .slice ua (lenF u.2) uc]] w fun e w' => ∃ a' c', e = .returned (ansV (putT u ps t) a' c') ∧ SepTm w' (fun k => w.heap.size ≤ k) (ansT (putT u ps t)).1 a' c' (ansT (putT u ps t)).2 ∧ Below w.heap.size w w' := by
  have I0 := PutIn.new w t u a ua c uc
  obtain ⟨W, hW⟩ : ∃ W, ((w.alloc (.cells #[.string t.1.1, .int .i64 t.1.2, .slice a (lenF t.2) c] 24)).alloc (.cells #[.string u.1.1, .int .i64 u.1.2, .slice ua (lenF u.2) uc] 24)).alloc (.cells #[.string ⟨#[]⟩, .int .i64 0, .slice none 0 0] 24) = W := ⟨_, rfl⟩
  have hWs : W.heap.size = w.heap.size + 1 + 1 + 1 := by rw [← hW, World.size_alloc, World.size_alloc, World.size_alloc]
  rw [hW] at I0
  have HI : Hid (PutIn w t u a ua c uc W) := I0
  have HT : Hid (TmAt w t.1 a c t.2) := hT
  have HU : Hid (TmAt w u.1 ua uc u.2) := hU
  have HP : Hid (IntsAt w pa pn ps) := hP
  have x0 := I0.t.c0; have x1 := I0.t.c1; have x2 := I0.t.c2
  clear hT hU hP I0
  go_enter Try.func6, Try.ntmps6
  go_wp2_with (rw [hW])
  clear hW
  refine (clone_any t.1 t.2 a c W (HT.out.below HI.out.low)).mono ?_
  rintro e w1 ⟨a1, c1, rfl, hS1, hb⟩
  obtain ⟨W1, hW1⟩ : ∃ W1, w1.alloc (.cells #[.string t.1.1, .int .i64 t.1.2, .slice a1 (lenF t.2) c1] 24) = W1 := ⟨_, rfl⟩
  have hb1 : Below w1.heap.size w1 W1 := by rw [← hW1]; exact (Below.refl _ _).alloc (Nat.le_refl _) _
  have hbW : Below W.heap.size W W1 := by rw [← hW1]; exact hb.alloc hb.size _
  have hs1 : W1.heap.size = w1.heap.size + 1 := by rw [← hW1, World.size_alloc]
  have HI1 : Hid (PutIn w t u a ua c uc W1) := HI.out.below hbW
  have HS1 : Hid (SepTm W1 (fun k => W.heap.size ≤ k ∧ k < w1.heap.size) t.1 a1 c1 t.2) := hS1.within.below hb1
  have HB1 : Hid (TBox W1 w1.heap.size t.1 a1 (lenF t.2) c1) := by show TBox _ _ _ _ _ _; rw [← hW1]; exact TBox.new _ _ _ _ _
  have hwW := hb.size
  clear hb hS1 hb1 hbW x0 x1 x2
  have hC := reach_any ps w1.heap.size 0 t a1 c1 pa pn pc W1 HB1.out.node HS1.out.tm (HP.out.below HI1.out.low) hpn
  go_wp2_with (rw [hW1])
  clear hW1
  refine hC.mono ?_
  rintro e w2 ⟨v, rfl, rfl, ⟨hs, rfl⟩ | ⟨u1, hs, ⟨b', o', a2, c2, rfl, hN, hT1, hL⟩⟩⟩
  · have HS : Hid (putT u ps t = none) := put_none u ps t hs
    have r0 := HI1.out.r.c0; have r1 := HI1.out.r.c1; have r2 := HI1.out.r.c2
    have f0 := HI1.out.r.f (k := 0); have f1 := HI1.out.r.f (k := 1); have f2 := HI1.out.r.f (k := 2)
    clear hC hs
    go_wp2
    refine ret_pair rfl rfl (HI1.out.r.all (x := (⟨#[]⟩, 0)) _) rfl ?_
    rw [HS.out]
    exact ⟨none, 0, rfl, sep_none _ _, sets_below HI1.out.low (by omega) _ _ _⟩
  · have HL : Hid (Leads w2 ps w1.heap.size 0 t b' o') := hL
    have HN : Hid (Node w2 b' o' u1.1 a2 c2 u1.2) := hN
    have x0 := HI1.out.u.c0; have x1 := HI1.out.u.c1; have x2 := HI1.out.u.c2
    clear hC hN hT1 hs hL
    go_wp2_with fail
    refine (clone_any u.1 u.2 ua uc w2 (HU.out.below HI1.out.low)).mono ?_
    rintro e w3 ⟨a3, c3, rfl, hS3, hb⟩
    obtain ⟨hwhere, ⟨cur, hcur⟩, hgo⟩ := put_stored (W2 := ((w3.setCell ⟨b', o', none⟩ (.string u.1.1)).setCell ⟨b', o' + 1, none⟩ (.int .i64 u.1.2)).setCell ⟨b', o' + 2, none⟩ (.slice a3 (lenF u.2) c3)) (u := u) (ua := a3) (uc := c3) (A3 := fun k => w2.heap.size ≤ k) ps HS1.out HB1.out.node (fun h => by omega) ⟨_, HB1.out⟩ HL.out
    have hblt : b' < w2.heap.size := (Array.getElem?_eq_some_iff.1 hcur).1
    have hbge : w.heap.size + 1 + 1 + 1 ≤ b' := by
      rcases hwhere with h | h
      · omega
      · omega
    have hcur3 : w3.heap[b']? = some (Obj.cells cur 24 (0, 0)) := (hb.block b' hblt).trans hcur
    have q0 := below_cell hb _ _ HN.out.name
    have q1 := below_cell hb _ _ HN.out.sym
    have q2 := below_cell hb _ _ HN.out.list
    have hcz := cell_size hcur3 q2
    obtain ⟨z0, z1, z2⟩ := sets_cells (a := .string u.1.1) (b := .int .i64 u.1.2) (c := .slice a3 (lenF u.2) c3) hcur3 (n := o') (by omega)
    obtain ⟨t', a', c', hp, hn', hs'⟩ := hgo (fun k hk hlt hne => (sets_elsewhere hne).trans (hb.block k hlt)) (fun j v hj hv => sets_outside hj (below_cell hb _ _ hv)) ⟨_, block_set (block_set (block_set hcur3 _) _) _⟩ ⟨z0, z1, z2⟩ (hS3.keep (fun k hk _ => sets_elsewhere (by omega))) (fun k hk h => by omega)
    have HP2 : Hid (putT u ps t = some t') := hp
    obtain ⟨W5, hW5⟩ : ∃ W5, ((w3.setCell ⟨b', o', none⟩ (.string u.1.1)).setCell ⟨b', o' + 1, none⟩ (.int .i64 u.1.2)).setCell ⟨b', o' + 2, none⟩ (.slice a3 (lenF u.2) c3) = W5 := ⟨_, rfl⟩
    rw [hW5] at hn' hs'
    have hlow5 : Below w.heap.size w W5 := by rw [← hW5]; exact sets_low (HI1.out.low.trans (hb.mono HI1.out.low.size)) (by omega) _ _ _
    have hr5 : XBox W5 (w.heap.size + 1 + 1) (⟨#[]⟩, 0) (.slice none 0 0) := by
      rw [← hW5]; exact (sets_elsewhere (by omega)).trans ((hb.block _ HI1.out.r.lt).trans HI1.out.r)
    have f0 := row_frozen (i := o') hcur3
    have f1 := row_frozen (i := o' + 1) hcur3
    have f2 := row_frozen (i := o' + 2) hcur3
    have y0 := hn'.name; have y1 := hn'.sym; have y2 := hn'.list
    have r0 := hr5.c0; have r1 := hr5.c1; have r2 := hr5.c2
    have g0 := hr5.f (k := 0); have g1 := hr5.f (k := 1); have g2 := hr5.f (k := 2)
    have HS5 : Hid (SepTm W5 (fun k => (W.heap.size ≤ k ∧ k < w1.heap.size) ∨ w2.heap.size ≤ k) t'.1 a' c' t'.2) := hs'
    have HR5 : Hid (XBox W5 (w.heap.size + 1 + 1) (⟨#[]⟩, 0) (.slice none 0 0)) := hr5
    have HL5 : Hid (Below w.heap.size w W5) := hlow5
    clear hwhere hcur hgo hb hS3 z0 z1 z2 hn' hs' hp hcur3 hlow5 hr5 x0 x1 x2
    go_wp2_with (rw [hW5])
    refine ret_pair rfl rfl (HR5.out.all (x := t'.1) _) rfl ?_
    rw [HP2.out]
    exact ⟨a', c', rfl, (HS5.out.keep (fun q hq _ => sets_far (by omega) _ _ _)).mono (fun q hq => by omega), sets_below HL5.out (by omega) _ _ _⟩
end Go.Proofs.Ytmhdapgiealmfab
