import Derived.Test.YtfnfbljijkjkjaaGreatKUfH
/- add of the solver. -/
namespace Go.Proofs.YtfnfbljijkjkjaaGreat
open Go.RowKit Go.Shelf Go.Deep

theorem below_fr {N : Nat} {A : Nat → Prop} {w0 W W' : World} (h : Below N w0 W) (hf : Fr A W W') (hA : ∀ q, A q → N ≤ q) (hN : N ≤ W.heap.size) : Below N w0 W' :=
  h.trans ⟨hf.low.os, hf.low.tape, hf.low.output, hf.low.size, fun k hk => hf.same k (by omega) (fun ha => by have := hA k ha; omega)⟩
theorem Sv.hid1 {w0 : World} {B : Nat} {v1 v2 : Value} {n : Nat} {es : List Kv} {bs : List Bk} {W : World} (h : Sv w0 B v1 v2 n es bs W) {q : Nat} {o : Obj} (hq : v1.ownBlock = some q ∨ q = B) (ho : W.heap[q]? = some o) : w0.heap.size ≤ q ∧ S0 w0.heap.size q o = false := by
  have hB := h.hB
  rcases hq with hq | rfl
  · obtain ⟨h1, cur, h2⟩ := owns_cells h.r1 hq
    rw [h2] at ho
    cases ho
    exact ⟨by omega, S0_not (by omega) (by decide)⟩
  · rw [show W.heap[q]? = _ from h.box] at ho
    cases ho
    exact ⟨hB, S0_not hB (by decide)⟩
theorem Sv.hid2 {w0 : World} {B : Nat} {v1 v2 : Value} {n : Nat} {es : List Kv} {bs : List Bk} {W : World} (h : Sv w0 B v1 v2 n es bs W) {q : Nat} {o : Obj} (hq : v2.ownBlock = some q ∨ q = B) (ho : W.heap[q]? = some o) : w0.heap.size ≤ q ∧ S0 w0.heap.size q o = false := by
  have hB := h.hB
  rcases hq with hq | rfl
  · obtain ⟨h1, cur, h2⟩ := owns_cells h.r2 hq
    rw [h2] at ho
    cases ho
    exact ⟨by omega, S0_not (by omega) (by decide)⟩
  · rw [show W.heap[q]? = _ from h.box] at ho
    cases ho
    exact ⟨hB, S0_not hB (by decide)⟩
theorem Sv.lt1 {w0 : World} {B : Nat} {v1 v2 : Value} {n : Nat} {es : List Kv} {bs : List Bk} {W : World} (h : Sv w0 B v1 v2 n es bs W) {q : Nat} (hq : v1.ownBlock = some q ∨ q = B) : q < W.heap.size := by
  rcases hq with hq | rfl
  · exact (h.r1.lt q hq).2
  · exact h.box.lt
theorem Sv.lt2 {w0 : World} {B : Nat} {v1 v2 : Value} {n : Nat} {es : List Kv} {bs : List Bk} {W : World} (h : Sv w0 B v1 v2 n es bs W) {q : Nat} (hq : v2.ownBlock = some q ∨ q = B) : q < W.heap.size := by
  rcases hq with hq | rfl
  · exact (h.r2.lt q hq).2
  · exact h.box.lt
/-- One bind more. -/
theorem Sv.add {w0 : World} {B : Nat} {v1 v2 v2' : Value} {n : Nat} {es : List Kv} {bs : List Bk} {W W' : World} (h : Sv w0 B v1 v2 n es bs W) (hf : Fr (fun q => v2.ownBlock = some q ∨ q = B) W W') (hb : Box W' B 72 #[v1, v2']) {b : Bk} (hr : W'.ownsRow (B + 1) 38 4 v2' (bs.length + 1) (bdCells bs ++ bdCells [b])) (ht : TmO (S0 w0.heap.size) W b.2.x b.2.a b.2.c b.2.l) : Sv w0 B v1 v2' n es (bs ++ [b]) W' := by
  have hk : ∀ {x : ByteArray × Int} {a : Option Addr} {c : Nat} {l : Fo}, TmO (S0 w0.heap.size) W x a c l → TmO (S0 w0.heap.size) W' x a c l := fun ht => tmO_fr ht hf fun q o hq ho => (h.hid2 hq ho).2
  refine ⟨below_fr h.low hf (fun q hq => (h.hid2 hq (Array.getElem?_eq_getElem (h.lt2 hq))).1) h.low.size, h.hB, hb, h.len, owns_block h.r1 (fun q hq => hf.same q (h.r1.lt q hq).2 ?_), ?_, fun k hk' => hk (h.te k hk'), fun q hq => ?_⟩
  · rintro (h2 | rfl)
    · exact row_ne h.r1 h.r2 (by decide) hq h2
    · exact row_box h.r1 h.box (by decide) hq
  · rw [List.length_append]
    have e : bdCells (bs ++ [b]) = bdCells bs ++ bdCells [b] := by unfold bdCells; rw [List.flatMap_append]
    rw [e]
    exact hr
  · rcases List.mem_append.1 hq with h1 | h1
    · exact hk (h.tb q h1)
    · rw [List.mem_singleton.1 h1]; exact hk ht
set_option maxRecDepth 100000 in
set_option maxHeartbeats 4000000 in
theorem add_any (w0 : World) (B : Nat) (v1 v2 : Value) (n : Nat) (es : List Kv) (bs : List Bk) (w : World) (nm : ByteArray) (k : Kv) (hS : Sv w0 B v1 v2 n es bs w) (ht : TmO (S0 w0.heap.size) w k.x k.a k.c k.l) (hn : bs.length ≤ 1073741824) :
    Calls Tryz.prog 57 #[.pointer (some ⟨B, 1, none⟩), .agg #[.string nm, .string k.x.1, .int .i64 k.x.2, .slice k.a (lenF k.l) k.c]] w fun e w' => (∃ v, e = .returned v) ∧ ∃ v2', Sv w0 B v1 v2' n es (bs ++ [(nm, k)]) w' := by
  obtain ⟨i0, hi, hz0, hz1, hz2⟩ := info_parts Tryz.info38
  have HS := hid hS; have HT := hid ht
  obtain ⟨nb, hnb⟩ : ∃ nb, bs.length = nb := ⟨_, rfl⟩
  have hr2 := hS.r2
  rw [hnb] at hr2 hn
  have HR2 := hid hr2; have HNB := hid hnb
  have hb1 := hS.box.over (.cells #[.string nm, .string k.x.1, .int .i64 k.x.2, .slice k.a (lenF k.l) k.c] 38)
  have hX := Box.new w 38 #[.string nm, .string k.x.1, .int .i64 k.x.2, .slice k.a (lenF k.l) k.c]
  have c1 := hb1.c 1
  have f1 := hb1.f 1
  have z0 := hX.c 0; have z1 := hX.c 1; have z2 := hX.c 2; have z3 := hX.c 3
  have HB := hid hb1
  have hlt := hS.box.lt
  have hvb : Hid (v2.ownBlock ≠ some B) := hid (row_box hS.r2 hS.box (by decide))
  clear hb1 hX hS ht hr2 hnb
  go_enter Tryz.func57, Tryz.ntmps57
  go_upto_region 1 with fail
  go_region_law (refine step_append_lies _ (by rfl) _ _ 29 (by rfl) (B + 1) 38 i0 _ 4 64 Tryz.underlying29 hi hz0 hz1 hz2 rfl (by decide) v2 nb (bdCells bs) (by rfl) (owns_below HR2.out ((((Below.refl _ w).alloc (Nat.le_refl _) _).alloc (by simp) _).drew)) ⟨w.heap.size + 1, 0, none⟩ 1 1 (bdCells [(nm, k)]) (by rfl) rfl (World.news_of_block (box_new (by simp) 38 _)) (one_bind nm k.x k.a (lenF k.l) k.c) (by decide) (by unfold maxLen; omega) (by omega) (by simp; omega) _ rfl ?_; intro g3 cap3 w3 hown3 hgrow3 hat3 hlt3; have hb3 : Box w3 B 72 #[v1, v2] := (hgrow3.block B (by show B < _; simp; omega) (fun e => hvb.out e.symm)).trans (HB.out.over (.cells #[.string nm, .string k.x.1, .int .i64 k.x.2, .slice k.a (lenF k.l) k.c] 38)); have HB3 := hid hb3; have v1' := hb3.c 1; have e1 := hb3.f 1; have HO3 := hid hown3; have HG3 := hid hgrow3; clear hown3 hgrow3 hat3 hb3)
  all_goals
    have hF : Fr (fun q => v2.ownBlock = some q ∨ q = B) w w3 := (Fr.of_below (((Below.refl _ w).alloc (Nat.le_refl _) _).alloc (by simp) _).drew).trans ((fr_grown HG3.out).mono (fun q hq => .inl hq))
    refine bodyPost_end (results_none rfl _ _ _) rfl ?_
    have hq3 : B + 1 ≤ g3 := (owns_cells (g := g3) HO3.out rfl).1
    have hne : g3 ≠ B := by omega
    refine ⟨⟨_, rfl⟩, .slice (some ⟨g3, 0, none⟩) (nb + 1) cap3, HS.out.add (fr_set1 (A := fun q => v2.ownBlock = some q ∨ q = B) hF (.inr rfl) 1 _) (HB3.out.set 1 _) ?_ HT.out⟩
    rw [HNB.out]
    exact owns_block HO3.out (fun g hg => by cases hg; exact Below.heap_setCell _ _ _ _ hne)
end Go.Proofs.YtfnfbljijkjkjaaGreat
/- take of the solver. -/
namespace Go.Proofs.YtfnfbljijkjkjaaGreat
open Go.RowKit Go.Shelf Go.Deep

theorem owns_cut {W : World} {base e z g m cap : Nat} {xs ys : List Value} (h : W.ownsRow base e z (.slice (some ⟨g, 0, none⟩) (m + 1) cap) (m + 1) (xs ++ ys)) (hx : xs.length = m * z) : W.ownsRow base e z (.slice (some ⟨g, 0, none⟩) m cap) m xs := by
  refine ⟨hx, ?_⟩
  rcases h.2 with ⟨h1, _⟩ | ⟨g', cap', cur, h1, h2, h3, h4, h5, h6, h7⟩
  · cases h1
  · cases h1
    refine .inr ⟨g, cap, cur, rfl, h2, h3, by omega, h5, h6, ?_⟩
    have := congrArg (List.take (m * z)) h7
    rw [List.take_take, Nat.min_eq_left (by rw [Nat.add_mul]; omega), List.take_append_of_le_length (by omega)] at this
    rw [this, List.take_of_length_le (by omega)]
/-- The first equation is taken out. -/
theorem Sv.take {w0 : World} {B : Nat} {v2 : Value} {m g cap : Nat} {es : List Kv} {k1 k2 : Kv} {bs : List Bk} {W W' : World} (h : Sv w0 B (.slice (some ⟨g, 0, none⟩) (m + 1) cap) v2 (m + 1) (es ++ [k1, k2]) bs W) (hf : Fr (fun q => q = B) W W') (hb : Box W' B 72 #[.slice (some ⟨g, 0, none⟩) m cap, v2]) : Sv w0 B (.slice (some ⟨g, 0, none⟩) m cap) v2 m es bs W' := by
  have hk : ∀ {x : ByteArray × Int} {a : Option Addr} {c : Nat} {l : Fo}, TmO (S0 w0.heap.size) W x a c l → TmO (S0 w0.heap.size) W' x a c l := fun ht => tmO_fr ht hf fun q o hq ho => (h.hid1 (.inr hq) ho).2
  have hl : es.length = 2 * m := by have := h.len; rw [List.length_append] at this; simp only [List.length_cons, List.length_nil] at this; omega
  have hr1 : W.ownsRow (B + 1) 28 6 (.slice (some ⟨g, 0, none⟩) m cap) m (kvCells es) := by
    have := h.r1
    rw [kvCells_app] at this
    exact owns_cut this (by rw [kvCells_len]; omega)
  refine ⟨below_fr h.low hf (fun q hq => by rw [hq]; exact h.hB) h.low.size, h.hB, hb, hl, owns_block hr1 (fun q hq => hf.same q (hr1.lt q hq).2 (fun e => by have := (hr1.lt q hq).1; omega)), owns_block h.r2 (fun q hq => hf.same q (h.r2.lt q hq).2 (fun e => by have := (h.r2.lt q hq).1; omega)), fun k hk' => hk (h.te k (List.mem_append_left _ hk')), fun q hq => hk (h.tb q hq)⟩
set_option maxRecDepth 100000 in
set_option maxHeartbeats 2000000 in
theorem takeS_any (w0 : World) (B : Nat) (v1 v2 : Value) (m : Nat) (es : List Kv) (k1 k2 : Kv) (bs : List Bk) (w : World) (hS : Sv w0 B v1 v2 (m + 1) (es ++ [k1, k2]) bs w) (hm : m ≤ 1073741824) :
    Calls Tryz.prog 29 #[.pointer (some ⟨B, 0, none⟩)] w fun e w' => e = .returned (.tuple #[.agg #[.string k1.x.1, .int .i64 k1.x.2, .slice k1.a (lenF k1.l) k1.c, .string k2.x.1, .int .i64 k2.x.2, .slice k2.a (lenF k2.l) k2.c], .bool true]) ∧ (∃ v1', Sv w0 B v1' v2 m es bs w') ∧ Fr (fun q => q = B) w w' := by
  obtain ⟨g, cap, rfl, hg1, hg2, hg3⟩ := own_slice hS.r1 (by omega)
  have hl : es.length = 2 * m := by have := hS.len; rw [List.length_append] at this; simp only [List.length_cons, List.length_nil] at this; omega
  have c0 := hS.box.c 0
  have f0 := hS.box.f 0
  have e0 := owns_cellk hS.r1 (m := 2 * m) (by simp only [List.length_append, List.length_cons, List.length_nil]; omega)
  have e1 := owns_cellk hS.r1 (m := 2 * m + 1) (by simp only [List.length_append, List.length_cons, List.length_nil]; omega)
  have g0 : (es ++ [k1, k2])[2 * m]'(by simp only [List.length_append, List.length_cons, List.length_nil]; omega) = k1 := by rw [List.getElem_append_right (by omega)]; simp [hl]
  have g1 : (es ++ [k1, k2])[2 * m + 1]'(by simp only [List.length_append, List.length_cons, List.length_nil]; omega) = k2 := by rw [List.getElem_append_right (by omega)]; simp [hl]
  rw [g0, show 2 * m * 3 = m * 6 by omega] at e0
  rw [g1, show (2 * m + 1) * 3 = m * 6 + 3 by omega, show m * 6 + 3 + 1 = m * 6 + 4 by omega, show m * 6 + 3 + 2 = m * 6 + 5 by omega] at e1
  obtain ⟨h0, h1, h2⟩ := e0
  obtain ⟨h3, h4, h5⟩ := e1
  have HS := hid hS
  have hlt := hS.box.lt
  have hBg : B ≠ g := by omega
  have hk0 : (0 : Int) ≤ (m : Int) := by omega
  clear hS g0 g1
  go_enter Tryz.func29, Tryz.ntmps29
  go_wp2_with fail
  have hSb : Box (w.setCell ⟨B, 0, none⟩ (.slice (some ⟨g, 0, none⟩) m cap)) B 72 #[.slice (some ⟨g, 0, none⟩) m cap, v2] := HS.out.box.set 0 _
  have hz : (w.setCell ⟨B, 0, none⟩ (.slice (some ⟨g, 0, none⟩) m cap)).heap.size = w.heap.size := by simp
  have hF : Fr (fun q => q = B) w (w.setCell ⟨B, 0, none⟩ (.slice (some ⟨g, 0, none⟩) m cap)) := fr_set1 (A := fun q => q = B) (Fr.refl _ w) rfl 0 _
  refine ret_take (p := 2) (u := 3) (B := w.heap.size) (cs := #[.string k1.x.1, .int .i64 k1.x.2, .slice k1.a (lenF k1.l) k1.c, .string k2.x.1, .int .i64 k2.x.2, .slice k2.a (lenF k2.l) k2.c]) rfl rfl rfl ((box_new hz 28 _).over _) rfl ?_
  have hF2 := fr_alloc (fr_alloc hF (.cells #[.string k1.x.1, .int .i64 k1.x.2, .slice k1.a (lenF k1.l) k1.c, .string k2.x.1, .int .i64 k2.x.2, .slice k2.a (lenF k2.l) k2.c] 28)) (.cells #[.string k1.x.1, .int .i64 k1.x.2, .slice k1.a (lenF k1.l) k1.c, .string k2.x.1, .int .i64 k2.x.2, .slice k2.a (lenF k2.l) k2.c] 28)
  exact ⟨rfl, ⟨_, HS.out.take hF2 ((hSb.over _).over _)⟩, hF2⟩
end Go.Proofs.YtfnfbljijkjkjaaGreat
