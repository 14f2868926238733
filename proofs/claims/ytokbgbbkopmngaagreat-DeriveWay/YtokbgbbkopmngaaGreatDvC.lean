/- A place: lay of one more. -/
import Derived.Test.YtokbgbbkopmngaaGreatDvB
namespace Go.Proofs.YtokbgbbkopmngaaGreat
open Go.RowKit Go.Deep

set_option maxRecDepth 100000 in
set_option maxHeartbeats 4000000 in
/-- Replace of none is Insert. -/
theorem rep_ins (g n c i : Nat) (V : Value) (w : World) (Q : Ending → World → Prop) (hi : i ≤ n) (hc : n ≤ c) (hC : Calls Tryz.prog 114 #[.slice (some ⟨g, 0, none⟩) n c, .int .i64 i, V] w fun e w' => ∃ v, e = .returned v ∧ Q (.returned v) w') :
    Calls Tryz.prog 104 #[.slice (some ⟨g, 0, none⟩) n c, .int .i64 i, .int .i64 i, V] w Q := by
  have HC := hid hC
  clear hC
  have hic : i ≤ c := by omega
  by_cases hb : c = i
  · subst hb
    go_enter Tryz.func104, Tryz.ntmps104
    go_wp2_with fail
    refine HC.out.mono ?_
    rintro e w2 ⟨v, rfl, hQ⟩
    have HQ := hid hQ
    clear hQ
    go_wp2
    exact HQ.out
  · go_enter Tryz.func104, Tryz.ntmps104
    go_wp2_with fail
    refine HC.out.mono ?_
    rintro e w2 ⟨v, rfl, hQ⟩
    have HQ := hid hQ
    clear hQ
    go_wp2
    exact HQ.out
set_option maxRecDepth 100000 in
set_option maxHeartbeats 4000000 in
theorem rep_ins0 (V : Value) (w : World) (Q : Ending → World → Prop) (hC : Calls Tryz.prog 114 #[.slice none 0 0, .int .i64 0, V] w fun e w' => ∃ v, e = .returned v ∧ Q (.returned v) w') :
    Calls Tryz.prog 104 #[.slice none 0 0, .int .i64 0, .int .i64 0, V] w Q := by
  have HC := hid hC
  clear hC
  go_enter Tryz.func104, Tryz.ntmps104
  go_wp2_with fail
  refine HC.out.mono ?_
  rintro e w2 ⟨v, rfl, hQ⟩
  have HQ := hid hQ
  clear hQ
  go_wp2
  exact HQ.out
theorem ins_row {w2 : World} {p' : Option Addr} {n c' : Nat} {X : List Kv} (hR2 : w2.ownsRow 0 26 3 (.slice p' (n + 1) c') (n + 1) (kvCells X)) (hll : X.length = n + 1) : ∃ g', p' = some ⟨g', 0, none⟩ ∧ RowV w2 g' c' X := by
  rw [← hll] at hR2
  obtain ⟨g, h1, _, h2⟩ := rowV_of hR2 (by omega)
  exact ⟨g, h1, h2⟩
/-- What Replace of none, one more, leaves: what is wanted behind it. -/
def InsMid (w W0 : World) (b o : Nat) (cur : Array Value) (p : Option Addr) (n c : Nat) (X : List Kv) (w2 : World) (v : Value) : Prop := ∃ g' c', v = .slice (some ⟨g', 0, none⟩) (n + 1) c' ∧ w2.cell? ⟨w.heap.size, 1, none⟩ = some (.pointer (some ⟨b, o, none⟩)) ∧ w2.cell? ⟨b, o + 2, none⟩ = some (.slice p n c) ∧ w2.frozen? ⟨b, o + 2, none⟩ = false ∧
  Hid (RowV w2 g' c' X ∧ Fr (fun q => p.map Addr.block = some q) W0 w2 ∧ (p.map Addr.block = some g' ∨ W0.heap.size ≤ g') ∧ w2.heap[b]? = some (.cells cur 26 (0, 0)))
set_option maxRecDepth 100000 in
set_option maxHeartbeats 1000000 in
theorem lay_ins (S : Option Addr) (n cap b o : Nat) (u : Int) (h : Bool) (i vb : Nat) (x : Kv) (ks : List Kv) (p : Option Addr) (c : Nat) (cur : Array Value) (w : World)
    (hcur : w.heap[b]? = some (.cells cur 26 (0, 0))) (hl : cur[o + 2]? = some (.slice p ks.length c)) (hR : w.ownsRow 0 26 3 (.slice p ks.length c) ks.length (kvCells ks)) (hbg : p.map Addr.block ≠ some b) (hi : i ≤ ks.length) (hks : ks.length ≤ 1048576)
    (hv : w.heap[vb]? = some (.cells #[.string x.x.1, .int .i64 x.x.2, .slice x.a (lenF x.l) x.c] 26 (0, 0))) (hvb : p.map Addr.block ≠ some vb) :
    Calls Tryz.prog 88 #[placeV S n cap b o u h, .int .i64 i, .int .i64 0, .slice (some ⟨vb, 0, none⟩) 1 1] w fun e w' => (∃ v, e = .returned v) ∧ LayEnd w b o cur p (ks.take i ++ x :: ks.drop i) w' := by
  obtain ⟨W0, hW0⟩ : ∃ W0, w.alloc (.cells #[.slice S n cap, .pointer (some ⟨b, o, none⟩), .int .i64 u, .bool h] 76) = W0 := ⟨_, rfl⟩
  have hb0 : Below w.heap.size w W0 := by rw [← hW0]; exact alloc_below0 _ _
  have B0 : Box W0 w.heap.size 76 #[.slice S n cap, .pointer (some ⟨b, o, none⟩), .int .i64 u, .bool h] := by rw [← hW0]; exact Box.new _ _ _
  have hbw : b < w.heap.size := (Array.getElem?_eq_some_iff.1 hcur).1
  have hcur0 : W0.heap[b]? = some (.cells cur 26 (0, 0)) := (hb0.block b hbw).trans hcur
  have hpw : ∀ q, p.map Addr.block = some q → q < w.heap.size := fun q hq => by
    rcases hR.2 with ⟨h1, _⟩ | ⟨g, c', cur', h1, _, h3, _⟩
    · have := (Value.slice.inj h1).1; subst this; cases hq
    · have := (Value.slice.inj h1).1; subst this
      cases hq
      exact (Array.getElem?_eq_some_iff.1 h3).1
  have hR0 : W0.ownsRow 0 26 3 (.slice p ks.length c) ks.length (kvCells ks) := owns_below hR hb0
  have hR1 : W0.drew.ownsRow 0 26 3 (.slice p ks.length c) ks.length (kvCells ks) := owns_below hR0 (Below.refl _ W0).drew
  have hv0 : W0.drew.heap[vb]? = some (.cells #[.string x.x.1, .int .i64 x.x.2, .slice x.a (lenF x.l) x.c] 26 (0, 0)) := (hb0.block vb (Array.getElem?_eq_some_iff.1 hv).1).trans hv
  have hC0 := insert_any 0 vb i p c ks x W0.drew hR1 hi hks (Nat.zero_le _) hv0 hvb
  have hll : (ks.take i ++ x :: ks.drop i).length = ks.length + 1 := by simp; omega
  obtain ⟨X, hX⟩ : ∃ X, ks.take i ++ x :: ks.drop i = X := ⟨_, rfl⟩
  rw [hX] at hC0 hll ⊢
  have hC2 : Calls Tryz.prog 114 #[.slice p ks.length c, .int .i64 i, .slice (some ⟨vb, 0, none⟩) 1 1] W0.drew fun e w2 => ∃ v, e = .returned v ∧ InsMid w W0 b o cur p ks.length c X w2 v := by
    refine Calls.mono hC0 ?_
    rintro e w2 ⟨p', c', he, hR2, hF2, hg2⟩
    have hF2' : Fr (fun q => p.map Addr.block = some q) W0 w2 := Fr.trans (y := W0.drew) ⟨(Below.refl _ W0).drew, fun _ _ _ => rfl⟩ hF2
    have hX2 := B0.fr hF2' (fun h => by have := hpw _ h; omega)
    have hc2 : w2.heap[b]? = some (.cells cur 26 (0, 0)) := (hF2'.same b (Nat.lt_of_lt_of_le hbw hb0.size) hbg).trans hcur0
    obtain ⟨g', rfl, hRR⟩ := ins_row hR2 hll
    exact ⟨_, he, g', c', rfl, hX2.v rfl, cell_box hc2 hl, by simp [World.frozen?, hc2], hRR, hF2', hg2 g' rfl, hc2⟩
  have hpc : ks.length ≤ c ∧ c ≤ 9223372036854775807 := by
    rcases hR.2 with ⟨h1, h2⟩ | ⟨g, c', cur', h1, _, _, h4, h5, _⟩
    · have := (Value.slice.inj h1); omega
    · have := (Value.slice.inj h1).2.2; unfold maxLen at h5; omega
  have hC3 : Calls Tryz.prog 104 #[.slice p ks.length c, .int .i64 i, .int .i64 i, .slice (some ⟨vb, 0, none⟩) 1 1] W0.drew fun e w2 => ∃ v, e = .returned v ∧ InsMid w W0 b o cur p ks.length c X w2 v := by
    rcases hR.2 with ⟨h1, h2⟩ | ⟨g, c', cur', h1, _⟩
    · obtain ⟨rfl, _, rfl⟩ := Value.slice.inj h1
      have hi0 : i = 0 := by omega
      rw [h2, hi0] at hC2 ⊢
      exact rep_ins0 _ _ _ (hC2.mono fun e w' ⟨v, he, h⟩ => ⟨v, he, v, rfl, h⟩)
    · obtain ⟨rfl, _, _⟩ := Value.slice.inj h1
      exact rep_ins g ks.length c i _ _ _ hi hpc.1 (hC2.mono fun e w' ⟨v, he, h⟩ => ⟨v, he, v, rfl, h⟩)
  have HC := hid hC3
  have d1 := B0.v (k := 1) rfl
  have e2 : W0.cell? ⟨b, o + 2, none⟩ = some (.slice p ks.length c) := cell_box hcur0 hl
  have f2 : W0.frozen? ⟨b, o + 2, none⟩ = false := by simp [World.frozen?, hcur0]
  have hpc1 := hpc.1
  have hpc2 := hpc.2
  have HB := hid hb0
  have HBG := hid hbg
  have hw : IntKind.i64.wrap ((i : Int) + 0) = (i : Int) := by rw [IntKind.wrap_i64]; omega
  have hw' : IntKind.i64.wrap (i : Int) = (i : Int) := by rw [IntKind.wrap_i64]; omega
  have HLL := hid hll
  have HPW := hid hpw
  clear hb0 hcur0 hR hR0 hR1 hv0 hv hC0 hC2 hC3 B0 hcur hks hbg hl hX hll hpw hvb hpc
  go_enter Tryz.func88, Tryz.ntmps88
  go_wp2_with fail
  go_region_with (first | (go_at_call 104; refine HC.out.mono ?_; rintro e w2 ⟨v, rfl, g', c', rfl, k1, k2, k3, K⟩) | fail)
  all_goals
    go_wp2
    go_end0
    obtain ⟨hR2, hF2, hg2, hc2⟩ := K.out
    refine ⟨⟨_, rfl⟩, g', c', hR2.keep (set_far (W := w2) (i := o + 2) ?_ _), by rw [HLL.out]; exact block_set (k := o + 2) hc2 _, ⟨(HB.out.mono (Nat.zero_le _)).trans (hF2.low.trans ((Below.refl 0 w2).setCell (p := ⟨b, o + 2, none⟩) (Nat.zero_le _) _)), fun q hq hA => ?_⟩, ?_⟩
    · rcases hg2 with e | e
      · exact fun h => HBG.out (by rw [e, h])
      · have := HB.out.size; omega
    · have h1 : q ≠ b := fun e => hA (.inr e)
      have h2 : ¬ p.map Addr.block = some q := fun e => hA (.inl e)
      exact ((set_far (W := w2) (i := o + 2) h1 _).trans (hF2.same q (Nat.lt_of_lt_of_le hq HB.out.size) h2)).trans (HB.out.block q hq)
    · rcases hg2 with e | e
      · exact .inl e
      · exact .inr (Nat.le_trans HB.out.size e)
end Go.Proofs.YtokbgbbkopmngaaGreat
