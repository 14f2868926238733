/- For every list of things and every number, of bulk at most 1048576 together, BagParts returns true: Parts goes through the parts of the bag that the document says, in its order, also where it is left early; the bag stays as it was, and a part may be changed by its owner; the condition is the second form's bound. -/
import Derived.Test.YtlbmamkkbpjafaaBFits
import Derived.Test.YtlbmamkkbpjafaaBBack
import Derived.Test.YtlbmamkkbpjafaaDPart
import Derived.Test.YtlbmamkkbpjafaaBParts
import Derived.Test.YtlbmamkkbpjafaaBUpto
namespace Go.Proofs.Ytlbmamkkbpjafaa
open Go.RowKit Go.Shelf

theorem parts_any (B : Nat) (w : World) : Calls Try.prog 27 #[.pointer (some ⟨B, 0, none⟩)] w fun e w' => e = .returned (.func (.func 46) #[] #[.pointer (some ⟨w.heap.size, 0, none⟩)]) ∧ w' = w.alloc (.cells #[.pointer (some ⟨B, 0, none⟩)] 24) := by
  go_enter Try.func27, Try.ntmps27
  go_wp2
  go_ret
  exact ⟨rfl, rfl⟩
/-- What the loop keeps: its boxes, both bags, the counts that are to come. Ym: most, and the answer's box; Yx: the bag's box and those behind it. -/
structure LK (w : World) (Z B1 Ym Yx B : Nat) (most : Nat) (L : List It) (px : Option Addr) (cx : Nat) (qx : Option Addr) (dx : Nat) (k : Nat) (st : Option (List Int)) (W : World) : Prop where
  ym : W.heap[Ym]? = some (.cells #[.int .i64 most] 3 (0, 0))
  yr : W.heap[Ym + 1]? = some (.cells #[.bool false] 4 (0, 0))
  yx : W.heap[Yx]? = some (.cells #[.pointer (some ⟨B, 0, none⟩)] 24 (0, 0))
  yy : W.heap[Yx + 1]? = some (.cells #[.slice qx L.length dx] 27 (0, 0))
  yn : W.heap[Yx + 4]? = some (.cells #[.int .i64 k] 3 (0, 0))
  yo : W.heap[Yx + 5]? = some (.cells #[.bool st.isSome] 4 (0, 0))
  bb : W.heap[Yx + 6]? = some (.cells #[.pointer (some ⟨B, 0, none⟩)] 24 (0, 0))
  df : W.heap[Yx + 7]? = some (.deferred (some []))
  bag : BagAt 0 B W L px cx
  row : W.ownsRow 0 60 3 (.slice qx L.length dx) L.length (itAll L)
  yc : ∃ q d n, W.heap[Yx + 3]? = some (.cells #[.slice q n d] 50 (0, 0)) ∧ ∀ cs, st = some cs → n = cs.length ∧ CRow W 0 q d cs ∧ Fits L cs ∧ ∀ g, q.map Addr.block = some g → g < Z ∨ B1 ≤ g
  far : B < Z ∧ (∀ g, px.map Addr.block = some g → g < Z) ∧ (∀ g, qx.map Addr.block = some g → g < Z) ∧ Ym + 1 < Z ∧ Yx + 8 < Z
  low : Below w.heap.size w W
/-- It stays where what lies below Z and the counts' row stay. -/
theorem LK.keep {w : World} {Z B1 Ym Yx B most : Nat} {L : List It} {px : Option Addr} {cx : Nat} {qx : Option Addr} {dx k : Nat} {st : Option (List Int)} {W W' : World} (h : LK w Z B1 Ym Yx B most L px cx qx dx k st W) (hs : ∀ b, b < Z → W'.heap[b]? = W.heap[b]?) (hc : ∀ g, B1 ≤ g → (∃ cs fz, W.heap[g]? = some (.cells cs 3 fz)) → W'.heap[g]? = W.heap[g]?) (hl : Below w.heap.size w W') : LK w Z B1 Ym Yx B most L px cx qx dx k st W' := by
  obtain ⟨f1, f2, f3, f4, f5⟩ := h.far
  obtain ⟨q, d, n, y, hq⟩ := h.yc
  refine ⟨(hs _ (by omega)).trans h.ym, (hs _ f4).trans h.yr, (hs _ (by omega)).trans h.yx, (hs _ (by omega)).trans h.yy, (hs _ (by omega)).trans h.yn, (hs _ (by omega)).trans h.yo, (hs _ (by omega)).trans h.bb, (hs _ (by omega)).trans h.df, ⟨(hs _ f1).trans h.bag.1, ?_, h.bag.2.2⟩, ?_, ⟨q, d, n, (hs _ (by omega)).trans y, fun cs hcs => ?_⟩, h.far, hl⟩
  · exact ⟨h.bag.2.1.1, h.bag.2.1.2.imp id (fun ⟨g, cap, cur, h1, h2, h3, h4⟩ => ⟨g, cap, cur, h1, h2, (hs g (f2 g (by rw [(Value.slice.inj h1).1]; rfl))).trans h3, h4⟩)⟩
  · exact ⟨h.row.1, h.row.2.imp id (fun ⟨g, cap, cur, h1, h2, h3, h4⟩ => ⟨g, cap, cur, h1, h2, (hs g (f3 g (by rw [(Value.slice.inj h1).1]; rfl))).trans h3, h4⟩)⟩
  · obtain ⟨e1, e2, e3, e4⟩ := hq cs hcs
    refine ⟨e1, ⟨e2.1, e2.2.imp id (fun ⟨g, cap, cur, h1, h2, h3, h4⟩ => ⟨g, cap, cur, h1, h2, ?_, h4⟩)⟩, e3, e4⟩
    rcases e4 g (by rw [(Value.slice.inj h1).1]; rfl) with h5 | h5
    · exact (hs g h5).trans h3
    · exact (hc g h5 ⟨_, _, h3⟩).trans h3
theorem LK.fr {w : World} {Z B1 Ym Yx B most : Nat} {L : List It} {px : Option Addr} {cx : Nat} {qx : Option Addr} {dx k : Nat} {st : Option (List Int)} {W W' : World} (h : LK w Z B1 Ym Yx B most L px cx qx dx k st W) (hz : Z ≤ W.heap.size) (hw : w.heap.size ≤ Z) (hf : Fr (fun b => Z ≤ b ∧ b < B1) W W') : LK w Z B1 Ym Yx B most L px cx qx dx k st W' :=
  h.keep (fun b hb => hf.same b (by omega) (by omega)) (fun g hg ⟨_, _, hh⟩ => hf.same g (Array.getElem?_eq_some_iff.1 hh).1 (by omega)) (h.low.trans (hf.below (fun b hb => by omega) h.low.size))
theorem LK.below {w : World} {Z B1 Ym Yx B most : Nat} {L : List It} {px : Option Addr} {cx : Nat} {qx : Option Addr} {dx k : Nat} {st : Option (List Int)} {W W' : World} (h : LK w Z B1 Ym Yx B most L px cx qx dx k st W) (hz : Z ≤ W.heap.size) (hb : Below W.heap.size W W') : LK w Z B1 Ym Yx B most L px cx qx dx k st W' :=
  h.keep (fun b hb' => hb.block b (by omega)) (fun g _ ⟨_, _, hh⟩ => hb.block g (Array.getElem?_eq_some_iff.1 hh).1) (h.low.trans (hb.mono h.low.size))
end Go.Proofs.Ytlbmamkkbpjafaa

namespace Go.Proofs.Ytlbmamkkbpjafaa
open Go.RowKit Go.Shelf

structure RS (w : World) (Z B1 Yx B mst : Nat) (L : List It) (px : Option Addr) (cx : Nat) (qx : Option Addr) (dx k : Nat) (cs : List Int) (r : Loop) (W0 W : World) : Prop where
  lk : LK w Z B1 w.heap.size Yx B mst L px cx qx dx k (some cs) W
  rc : W.heap[Yx + 8]? = some (.loop r)
  sm : ∀ b, Z ≤ b → b < B1 → W.heap[b]? = W0.heap[b]?
  sz : Z ≤ W.heap.size
  b1 : B1 ≤ W.heap.size
theorem RS.below {w : World} {Z B1 Yx B mst : Nat} {L : List It} {px : Option Addr} {cx : Nat} {qx : Option Addr} {dx k : Nat} {cs : List Int} {r : Loop} {W0 W W' : World} (h : RS w Z B1 Yx B mst L px cx qx dx k cs r W0 W) (hb : Below W.heap.size W W') : RS w Z B1 Yx B mst L px cx qx dx k cs r W0 W' :=
  ⟨h.lk.below h.sz hb, (hb.block _ (Array.getElem?_eq_some_iff.1 h.rc).1).trans h.rc, fun b h1 h2 => (hb.block b (Nat.lt_of_lt_of_le h2 h.b1)).trans (h.sm b h1 h2), Nat.le_trans h.sz hb.size, Nat.le_trans h.b1 hb.size⟩
theorem bag_apart3 {W : World} {base B : Nat} {l : List It} {p : Option Addr} {c : Nat} (h : BagAt base B W l p c) {g : Nat} {cs : Array Value} {fz : Nat × Nat} (hg : W.heap[g]? = some (.cells cs 3 fz)) : ¬ (g = B ∨ p.map Addr.block = some g) := by
  rintro (rfl | he)
  · have e : some (Obj.cells #[ordV, .slice p l.length c] 63 (0, 0)) = some (Obj.cells cs 3 fz) := h.1.symm.trans hg
    injection e with e
    injection e with _ e _
    exact absurd e (by decide)
  · rcases h.2.1.2 with ⟨h2, _⟩ | ⟨g', cap, cur, h2, _, h3, _⟩
    · rw [(Value.slice.inj h2).1] at he
      cases he
    · rw [(Value.slice.inj h2).1] at he
      obtain rfl : g' = g := Option.some.inj he
      rw [h3] at hg
      injection hg with e
      injection e with _ e _
      exact absurd e (by decide)
theorem RS.add {w : World} {Z B1 Yx B mst : Nat} {L : List It} {px : Option Addr} {cx : Nat} {qx : Option Addr} {dx k : Nat} {cs : List Int} {r : Loop} {W0 W W' : World} (h : RS w Z B1 Yx B mst L px cx qx dx k cs r W0 W) (hZ : Z ≤ B1) {Bp : Nat} {l : List It} {pp : Option Addr} {cp : Nat} (hA : BagAt B1 Bp W l pp cp) (hBp : B1 ≤ Bp) (hf : Fr (fun q => q = Bp ∨ pp.map Addr.block = some q) W W') : RS w Z B1 Yx B mst L px cx qx dx k cs r W0 W' := by
  have ha : ∀ q, (q = Bp ∨ pp.map Addr.block = some q) → B1 ≤ q := by
    rintro q (rfl | hq)
    · exact hBp
    · exact (hA.2.1.lt q (by rw [own_eq]; exact hq)).1
  have hs : ∀ b, b < B1 → W'.heap[b]? = W.heap[b]? := fun b hb => hf.same b (Nat.lt_of_lt_of_le hb h.b1) (fun hq => by have := ha b hq; omega)
  have far := h.lk.far
  refine ⟨h.lk.keep (fun b hb => hs b (by omega)) (fun g hg ⟨c, fz, hc⟩ => hf.same g (Array.getElem?_eq_some_iff.1 hc).1 (bag_apart3 hA hc)) (h.lk.low.trans (hf.below (fun b hb => by have := ha b hb; omega) h.lk.low.size)), (hs _ (by omega)).trans h.rc, fun b h1 h2 => (hs b h2).trans (h.sm b h1 h2), Nat.le_trans h.sz hf.low.size, Nat.le_trans h.b1 hf.low.size⟩
end Go.Proofs.Ytlbmamkkbpjafaa

namespace Go.Proofs.Ytlbmamkkbpjafaa
open Go.RowKit Go.Deep Go.Shelf

attribute [local go_sem] Oper.semAt_some

theorem reads_ok {l : List It} (hl : Bg l) (hn : l.length ≤ 1048576) (base : Nat) (B : Nat) (p : Option Addr) (c : Nat) (q : Option Addr) (d : Nat) (w : World) (hA : BagAt base B w l p c) (hO : w.ownsRow 0 60 3 (.slice q l.length d) l.length (itAll l)) :
    Calls Try.prog 13 #[.pointer (some ⟨B, 0, none⟩), .agg #[.slice q l.length d]] w fun e w' => e = .returned (.bool true) ∧ Below w.heap.size w w' :=
  reads_any base B p c 0 q d l w hA hO hl.srt hn hl.pos (by have := hl.sum; omega)
theorem put_cells {W : World} {b L : Nat} {cs : Array Value} {t : TypeId} {fz : Nat × Nat} {r : Loop} (hl : W.heap[L]? = some (.loop r)) (h : W.heap[b]? = some (.cells cs t fz)) (o : Obj) : (W.putObj L o).heap[b]? = some (.cells cs t fz) :=
  (World.putObj_heap_other (fun e => by rw [e, hl] at h; cases h)).trans h
theorem put_row {W : World} {base e size k L : Nat} {v : Value} {xs : List Value} {r : Loop} (hl : W.heap[L]? = some (.loop r)) (h : W.ownsRow base e size v k xs) (o : Obj) : (W.putObj L o).ownsRow base e size v k xs :=
  ⟨h.1, h.2.imp id (fun ⟨g, cap, cur, h1, h2, h3, h4⟩ => ⟨g, cap, cur, h1, h2, put_cells hl h3 o, h4⟩)⟩
/-- The record may be turned. -/
theorem LK.put {w : World} {Z B1 Ym Yx B most : Nat} {L : List It} {px : Option Addr} {cx : Nat} {qx : Option Addr} {dx k : Nat} {st : Option (List Int)} {W : World} {r : Loop} (h : LK w Z B1 Ym Yx B most L px cx qx dx k st W) (hl : W.heap[Yx + 8]? = some (.loop r)) (hw : w.heap.size ≤ Yx) (o : Obj) : LK w Z B1 Ym Yx B most L px cx qx dx k st (W.putObj (Yx + 8) o) := by
  obtain ⟨q, d, n, y, hq⟩ := h.yc
  refine ⟨put_cells hl h.ym o, put_cells hl h.yr o, put_cells hl h.yx o, put_cells hl h.yy o, put_cells hl h.yn o, put_cells hl h.yo o, put_cells hl h.bb o, (World.putObj_heap_other (by omega)).trans h.df, ⟨put_cells hl h.bag.1 o, put_row hl h.bag.2.1 o, h.bag.2.2⟩, put_row hl h.row o, ⟨q, d, n, put_cells hl y o, fun cs hcs => ?_⟩, h.far, ?_⟩
  · obtain ⟨e1, e2, e3, e4⟩ := hq cs hcs
    exact ⟨e1, put_row hl e2 o, e3, e4⟩
  · exact h.low.trans ((fr_one (Yx + 8) o).below (fun b e => by omega) h.low.size)
theorem pt_low {w : World} {Z B1 Yx B most : Nat} {L : List It} {px : Option Addr} {cx : Nat} {qx : Option Addr} {dx k : Nat} {st : Option (List Int)} {W : World} (h : LK w Z B1 w.heap.size Yx B most L px cx qx dx k st W) (hww : w.heap.size + 1 < Yx) (v : Bool) :
    (W.setCell ⟨w.heap.size + 1, 0, none⟩ (.bool v)).heap[Yx + 7]? = some (.deferred (some [])) ∧ ((W.setCell ⟨w.heap.size + 1, 0, none⟩ (.bool v)).putObj (Yx + 7) (.deferred none)).heap[w.heap.size + 1]? = some (.cells #[.bool v] 4 (0, 0)) ∧ Below w.heap.size w ((W.setCell ⟨w.heap.size + 1, 0, none⟩ (.bool v)).putObj (Yx + 7) (.deferred none)) := by
  have hb := h.low.setCell (p := ⟨w.heap.size + 1, 0, none⟩) (show w.heap.size ≤ w.heap.size + 1 by omega) (.bool v)
  exact ⟨(set_far (by omega) _).trans h.df, (World.putObj_heap_other (by omega)).trans (set1 h.yr), hb.trans ((fr_one (Yx + 7) _).below (fun b e => by omega) hb.size)⟩
theorem LK.step {w : World} {Z B1 Ym Yx B most : Nat} {L : List It} {px : Option Addr} {cx : Nat} {qx : Option Addr} {dx k : Nat} {cs : List Int} {W : World} (h : LK w Z B1 Ym Yx B most L px cx qx dx k (some cs) W) (hBZ : Z ≤ B1) (hw : w.heap.size ≤ Yx) (hY : Ym + 1 < Yx) (hx : B < Yx ∧ (∀ g, px.map Addr.block = some g → g < Yx) ∧ (∀ g, qx.map Addr.block = some g → g < Yx)) (q : Option Addr) (n d : Nat) (hb1 : (riseP L cs).2 = true → ∀ g, q.map Addr.block = some g → B1 ≤ g) (hr : (riseP L cs).2 = true → n = (riseP L cs).1.length ∧ CRow W 0 q d (riseP L cs).1) (hp : ∀ y ∈ L, 1 ≤ y.2) :
    LK w Z B1 Ym Yx B most L px cx qx dx (k + 1) (riseO L cs) (((W.setCell ⟨Yx + 3, 0, none⟩ (.slice q n d)).setCell ⟨Yx + 5, 0, none⟩ (.bool (riseP L cs).2)).setCell ⟨Yx + 4, 0, none⟩ (.int .i64 ((k : Int) + 1))) := by
  obtain ⟨q0, d0, n0, y, hq⟩ := h.yc
  obtain ⟨x1, x2, x3⟩ := hx
  have hf := (hq cs rfl).2.2.1
  have fr3 : ∀ b, b ≠ Yx + 3 → b ≠ Yx + 5 → b ≠ Yx + 4 → (((W.setCell ⟨Yx + 3, 0, none⟩ (.slice q n d)).setCell ⟨Yx + 5, 0, none⟩ (.bool (riseP L cs).2)).setCell ⟨Yx + 4, 0, none⟩ (.int .i64 ((k : Int) + 1))).heap[b]? = W.heap[b]? := fun b h1 h2 h3 => (set_far h3 _).trans ((set_far h2 _).trans (set_far h1 _))
  have hlow := ((h.low.setCell (p := ⟨Yx + 3, 0, none⟩) (show w.heap.size ≤ Yx + 3 by omega) (.slice q n d)).setCell (p := ⟨Yx + 5, 0, none⟩) (show w.heap.size ≤ Yx + 5 by omega) (.bool (riseP L cs).2)).setCell (p := ⟨Yx + 4, 0, none⟩) (show w.heap.size ≤ Yx + 4 by omega) (.int .i64 ((k : Int) + 1))
  have hfar := h.far
  have e3 : (((W.setCell ⟨Yx + 3, 0, none⟩ (.slice q n d)).setCell ⟨Yx + 5, 0, none⟩ (.bool (riseP L cs).2)).setCell ⟨Yx + 4, 0, none⟩ (.int .i64 ((k : Int) + 1))).heap[Yx + 3]? = some (.cells #[.slice q n d] 50 (0, 0)) := (set_far (by omega) _).trans ((set_far (by omega) _).trans (set1 y))
  have e5 : (((W.setCell ⟨Yx + 3, 0, none⟩ (.slice q n d)).setCell ⟨Yx + 5, 0, none⟩ (.bool (riseP L cs).2)).setCell ⟨Yx + 4, 0, none⟩ (.int .i64 ((k : Int) + 1))).heap[Yx + 5]? = some (.cells #[.bool (riseP L cs).2] 4 (0, 0)) := (set_far (by omega) _).trans (set1 ((set_far (by omega) _).trans h.yo))
  have e4 : (((W.setCell ⟨Yx + 3, 0, none⟩ (.slice q n d)).setCell ⟨Yx + 5, 0, none⟩ (.bool (riseP L cs).2)).setCell ⟨Yx + 4, 0, none⟩ (.int .i64 ((k : Int) + 1))).heap[Yx + 4]? = some (.cells #[.int .i64 ((k : Int) + 1)] 3 (0, 0)) := set1 ((set_far (by omega) _).trans ((set_far (by omega) _).trans h.yn))
  generalize (((W.setCell ⟨Yx + 3, 0, none⟩ (.slice q n d)).setCell ⟨Yx + 5, 0, none⟩ (.bool (riseP L cs).2)).setCell ⟨Yx + 4, 0, none⟩ (.int .i64 ((k : Int) + 1))) = W9 at fr3 hlow e3 e4 e5 ⊢
  have hso : (riseO L cs).isSome = (riseP L cs).2 := by unfold riseO; split <;> simp_all
  refine ⟨(fr3 _ (by omega) (by omega) (by omega)).trans h.ym, (fr3 _ (by omega) (by omega) (by omega)).trans h.yr, (fr3 _ (by omega) (by omega) (by omega)).trans h.yx, (fr3 _ (by omega) (by omega) (by omega)).trans h.yy, e4, by rw [hso]; exact e5, (fr3 _ (by omega) (by omega) (by omega)).trans h.bb, (fr3 _ (by omega) (by omega) (by omega)).trans h.df, ⟨(fr3 _ (by omega) (by omega) (by omega)).trans h.bag.1, ?_, h.bag.2.2⟩, ?_, ⟨q, d, n, e3, fun cs' hcs' => ?_⟩, h.far, hlow⟩
  · exact ⟨h.bag.2.1.1, h.bag.2.1.2.imp id (fun ⟨g, cap, cur, h1, h2, h3, h4⟩ => ⟨g, cap, cur, h1, h2, (by have := x2 g (by rw [(Value.slice.inj h1).1]; rfl); exact (fr3 g (by omega) (by omega) (by omega)).trans h3), h4⟩)⟩
  · exact ⟨h.row.1, h.row.2.imp id (fun ⟨g, cap, cur, h1, h2, h3, h4⟩ => ⟨g, cap, cur, h1, h2, (by have := x3 g (by rw [(Value.slice.inj h1).1]; rfl); exact (fr3 g (by omega) (by omega) (by omega)).trans h3), h4⟩)⟩
  · unfold riseO at hcs'
    split at hcs'
    · rename_i ht
      obtain rfl := Option.some.inj hcs'
      obtain ⟨r1, r2⟩ := hr ht
      refine ⟨r1, ⟨r2.1, r2.2.imp id (fun ⟨g, cap, cur, h1, h2, h3, h4⟩ => ⟨g, cap, cur, h1, h2, (by have := hb1 ht g (by rw [(Value.slice.inj h1).1]; rfl); exact (fr3 g (by omega) (by omega) (by omega)).trans h3), h4⟩)⟩, fits_rise hp hf _ (Nat.le_refl _), fun g hg => .inr (hb1 ht g hg)⟩
    · cases hcs'
theorem pt_start (w W : World) (Yx B mst : Nat) (L : List It) (px : Option Addr) (cx : Nat) (qx : Option Addr) (dx : Nat) (cur : Array Value) (r : Loop) (hL : Bg L) (hc : cur.toList = cAll (List.replicate L.length 0)) (hcs : cur.size = L.length) (hLn : L.length ≤ 1048576) (hsz : W.heap.size = Yx + 1 + 1) (hww : w.heap.size + 1 < Yx)
    (ym : W.heap[w.heap.size]? = some (.cells #[.int .i64 mst] 3 (0, 0))) (yr : W.heap[w.heap.size + 1]? = some (.cells #[.bool false] 4 (0, 0))) (yx : W.heap[Yx]? = some (.cells #[.pointer (some ⟨B, 0, none⟩)] 24 (0, 0))) (yy : W.heap[Yx + 1]? = some (.cells #[.slice qx L.length dx] 27 (0, 0)))
    (bag : BagAt 0 B W L px cx) (row : W.ownsRow 0 60 3 (.slice qx L.length dx) L.length (itAll L)) (hB : B < Yx) (hpx : ∀ g, px.map Addr.block = some g → g < Yx) (hqx : ∀ g, qx.map Addr.block = some g → g < Yx) (low : Below w.heap.size w W) (A5 : World)
    (hA5 : A5 = ((((W.alloc (.cells cur 3)).alloc (.cells #[.slice (some ⟨Yx + 1 + 1, 0, none⟩) L.length L.length] 50)).alloc (.cells #[.int .i64 0] 3)).alloc (.cells #[.bool true] 4)).alloc (.cells #[.pointer (some ⟨B, 0, none⟩)] 24)) :
    A5.heap.size = Yx + 7 ∧ ((A5.alloc (.deferred (some []))).alloc (.loop r)).heap.size = Yx + 9 ∧ ((A5.alloc (.deferred (some []))).alloc (.loop r)).heap[Yx + 8]? = some (.loop r) ∧ ∀ B1, Yx + 9 ≤ B1 → LK w (Yx + 9) B1 w.heap.size Yx B mst L px cx qx dx 0 (some (List.replicate L.length 0)) ((A5.alloc (.deferred (some []))).alloc (.loop r)) := by
  have q1 := alloc_below0 W (.cells cur 3)
  have m1 := World.alloc_heap_new W (.cells cur 3)
  obtain ⟨A1, e1⟩ : ∃ A, W.alloc (.cells cur 3) = A := ⟨_, rfl⟩
  have s1 : A1.heap.size = Yx + 3 := by rw [← e1, World.size_alloc, hsz]
  rw [e1] at q1 m1 hA5
  have q2 := alloc_below0 A1 (.cells #[.slice (some ⟨Yx + 1 + 1, 0, none⟩) L.length L.length] 50)
  have m2 := World.alloc_heap_new A1 (.cells #[.slice (some ⟨Yx + 1 + 1, 0, none⟩) L.length L.length] 50)
  obtain ⟨A2, e2⟩ : ∃ A, A1.alloc (.cells #[.slice (some ⟨Yx + 1 + 1, 0, none⟩) L.length L.length] 50) = A := ⟨_, rfl⟩
  have s2 : A2.heap.size = Yx + 4 := by rw [← e2, World.size_alloc, s1]
  rw [e2] at q2 m2 hA5
  have q3 := alloc_below0 A2 (.cells #[.int .i64 0] 3)
  have m3 := World.alloc_heap_new A2 (.cells #[.int .i64 0] 3)
  obtain ⟨A3, e3⟩ : ∃ A, A2.alloc (.cells #[.int .i64 0] 3) = A := ⟨_, rfl⟩
  have s3 : A3.heap.size = Yx + 5 := by rw [← e3, World.size_alloc, s2]
  rw [e3] at q3 m3 hA5
  have q4 := alloc_below0 A3 (.cells #[.bool true] 4)
  have m4 := World.alloc_heap_new A3 (.cells #[.bool true] 4)
  obtain ⟨A4, e4⟩ : ∃ A, A3.alloc (.cells #[.bool true] 4) = A := ⟨_, rfl⟩
  have s4 : A4.heap.size = Yx + 6 := by rw [← e4, World.size_alloc, s3]
  rw [e4] at q4 m4 hA5
  have q5 := alloc_below0 A4 (.cells #[.pointer (some ⟨B, 0, none⟩)] 24)
  have m5 := World.alloc_heap_new A4 (.cells #[.pointer (some ⟨B, 0, none⟩)] 24)
  rw [← hA5] at q5 m5
  have s5 : A5.heap.size = Yx + 7 := by rw [hA5, World.size_alloc, s4]
  have q6 := alloc_below0 A5 (.deferred (some []))
  have m6 := World.alloc_heap_new A5 (.deferred (some []))
  obtain ⟨A6, e6⟩ : ∃ A, A5.alloc (.deferred (some [])) = A := ⟨_, rfl⟩
  have s6 : A6.heap.size = Yx + 8 := by rw [← e6, World.size_alloc, s5]
  rw [e6] at q6 m6 ⊢
  have q7 := alloc_below0 A6 (.loop r)
  have m7 := World.alloc_heap_new A6 (.loop r)
  obtain ⟨A7, e7⟩ : ∃ A, A6.alloc (.loop r) = A := ⟨_, rfl⟩
  have s7 : A7.heap.size = Yx + 9 := by rw [← e7, World.size_alloc, s6]
  rw [e7] at q7 m7 ⊢
  rw [hsz] at q1 m1
  rw [s1] at q2 m2
  rw [s2] at q3 m3
  rw [s3] at q4 m4
  rw [s4] at q5 m5
  rw [s5] at q6 m6
  rw [s6] at q7 m7
  have t6 := q7
  have t5 := q6.trans (t6.mono (by omega))
  have t4 := q5.trans (t5.mono (by omega))
  have t3 := q4.trans (t4.mono (by omega))
  have t2 := q3.trans (t3.mono (by omega))
  have t1 := q2.trans (t2.mono (by omega))
  have t0 := q1.trans (t1.mono (by omega))
  have tW : Below W.heap.size W A7 := by rw [hsz]; exact t0
  have hrow : A1.ownsRow 0 3 1 (.slice (some ⟨Yx + 1 + 1, 0, none⟩) L.length L.length) L.length (cAll (List.replicate L.length 0)) := by
    rw [← hc]
    exact ⟨by rw [Array.length_toList, hcs, Nat.mul_one], .inr ⟨Yx + 1 + 1, L.length, cur, rfl, Nat.zero_le _, m1, Nat.le_refl _, by unfold maxLen; omega, by rw [hcs, Nat.mul_one], by rw [List.take_of_length_le (by rw [Array.length_toList, hcs, Nat.mul_one]; exact Nat.le_refl _)]⟩⟩
  refine ⟨s5, s7, m7, fun B1 hB1 => ⟨(t0.block _ (by omega)).trans ym, (t0.block _ (by omega)).trans yr, (t0.block _ (by omega)).trans yx, (t0.block _ (by omega)).trans yy, (t3.block _ (by omega)).trans m3, (t4.block _ (by omega)).trans m4, (t5.block _ (by omega)).trans m5, (t6.block _ (by omega)).trans m6, bag.below tW, owns60_below row tW, ⟨some ⟨Yx + 1 + 1, 0, none⟩, L.length, L.length, (t2.block _ (by omega)).trans m2, fun cs hcs' => ?_⟩, ⟨by omega, fun g hg => by have := hpx g hg; omega, fun g hg => by have := hqx g hg; omega, by omega, by omega⟩, low.trans (tW.mono low.size)⟩⟩
  obtain rfl := Option.some.inj hcs'
  refine ⟨List.length_replicate.symm, ?_, fits_zero hL.pos, fun g hg => .inl ?_⟩
  · have hr : CRow A1 0 (some ⟨Yx + 1 + 1, 0, none⟩) L.length (List.replicate L.length 0) := by
      show World.ownsRow _ _ 3 1 (.slice _ (List.replicate L.length (0 : Int)).length L.length) (List.replicate L.length (0 : Int)).length _
      rw [List.length_replicate]
      exact hrow
    exact crow_same hr (t1.block (Yx + 1 + 1) (by omega))
  · have : Yx + 1 + 1 = g := Option.some.inj hg
    omega
theorem round_end {w : World} {B1 Yx B mst : Nat} {L : List It} {px : Option Addr} {cx : Nat} {qx : Option Addr} {dx k : Nat} {cs : List Int} {r : Loop} {W W7 : World} (h : RS w (Yx + 9) B1 Yx B mst L px cx qx dx k cs r W W7) (hBZ : Yx + 9 ≤ B1) (hw : w.heap.size + 1 < Yx) (hx : B < Yx ∧ (∀ g, px.map Addr.block = some g → g < Yx) ∧ (∀ g, qx.map Addr.block = some g → g < Yx)) (hp : ∀ y ∈ L, 1 ≤ y.2) (q : Option Addr) (n d base : Nat) (hb : B1 ≤ base) (hn : (if (riseP L cs).2 then (riseP L cs).1.length else 0) = n) (hc : (riseP L cs).2 = true → CRow W7 base q d (riseP L cs).1) (o : Loop) (W9 : World) (hW9 : W9 = (((W7.setCell ⟨Yx + 3, 0, none⟩ (.slice q n d)).setCell ⟨Yx + 5, 0, none⟩ (.bool (riseP L cs).2)).setCell ⟨Yx + 4, 0, none⟩ (.int .i64 ((k : Int) + 1)))) :
    W9.heap[Yx + 8]? = some (.loop r) ∧ (∀ b, Yx + 9 ≤ b → b < B1 → (W9.putObj (Yx + 8) (.loop o)).heap[b]? = W.heap[b]?) ∧ LK w (Yx + 9) B1 w.heap.size Yx B mst L px cx qx dx (k + 1) (riseO L cs) (W9.putObj (Yx + 8) (.loop o)) ∧ (W9.putObj (Yx + 8) (.loop o)).heap[Yx + 8]? = some (.loop o) ∧ Yx + 9 ≤ (W9.putObj (Yx + 8) (.loop o)).heap.size := by
  have fr3 : ∀ b, b ≠ Yx + 3 → b ≠ Yx + 5 → b ≠ Yx + 4 → W9.heap[b]? = W7.heap[b]? := fun b h1 h2 h3 => by rw [hW9]; exact (set_far h3 _).trans ((set_far h2 _).trans (set_far h1 _))
  have hrc : W9.heap[Yx + 8]? = some (.loop r) := (fr3 _ (by omega) (by omega) (by omega)).trans h.rc
  have hlt := (Array.getElem?_eq_some_iff.1 hrc).1
  have hst := h.lk.step hBZ (by omega) (by omega) hx q n d (fun ht g hg => by
    have := ((hc ht).lt g (by rw [own_eq]; exact hg)).1
    omega) (fun ht => ⟨by rw [← hn, if_pos ht], owns_base (hc ht) (Nat.zero_le _)⟩) hp
  rw [← hW9] at hst
  have hs : (W9.putObj (Yx + 8) (.loop o)).heap.size = W9.heap.size := by simp [World.putObj]
  exact ⟨hrc, fun b h1 h2 => (World.putObj_heap_other (by omega)).trans ((fr3 b (by omega) (by omega) (by omega)).trans (h.sm b h1 h2)), hst.put hrc (by omega) _, World.putObj_heap_same hlt, by omega⟩
theorem stores_at {w : World} {Z B1 Yx B most : Nat} {L : List It} {px : Option Addr} {cx : Nat} {qx : Option Addr} {dx k : Nat} {st : Option (List Int)} {W : World} (h : LK w Z B1 w.heap.size Yx B most L px cx qx dx k st W) (hw : w.heap.size + 1 < Yx) (v : Value) (b : Bool) :
    (W.setCell ⟨Yx + 3, 0, none⟩ v).frozen? ⟨Yx + 5, 0, none⟩ = false ∧ (W.setCell ⟨Yx + 3, 0, none⟩ v).cell? ⟨Yx + 5, 0, none⟩ = some (.bool st.isSome) ∧ ((W.setCell ⟨Yx + 3, 0, none⟩ v).setCell ⟨Yx + 5, 0, none⟩ (.bool b)).cell? ⟨Yx + 4, 0, none⟩ = some (.int .i64 k) ∧ ((W.setCell ⟨Yx + 3, 0, none⟩ v).setCell ⟨Yx + 5, 0, none⟩ (.bool b)).frozen? ⟨Yx + 4, 0, none⟩ = false ∧
    (((W.setCell ⟨Yx + 3, 0, none⟩ v).setCell ⟨Yx + 5, 0, none⟩ (.bool b)).setCell ⟨Yx + 4, 0, none⟩ (.int .i64 ((k : Int) + 1))).cell? ⟨Yx + 4, 0, none⟩ = some (.int .i64 ((k : Int) + 1)) ∧ (((W.setCell ⟨Yx + 3, 0, none⟩ v).setCell ⟨Yx + 5, 0, none⟩ (.bool b)).setCell ⟨Yx + 4, 0, none⟩ (.int .i64 ((k : Int) + 1))).cell? ⟨w.heap.size, 0, none⟩ = some (.int .i64 most) := by
  have e5 : (W.setCell ⟨Yx + 3, 0, none⟩ v).heap[Yx + 5]? = _ := (set_far (by omega) _).trans h.yo
  have e4 : ((W.setCell ⟨Yx + 3, 0, none⟩ v).setCell ⟨Yx + 5, 0, none⟩ (.bool b)).heap[Yx + 4]? = _ := (set_far (by omega) _).trans ((set_far (by omega) _).trans h.yn)
  have e0 : (((W.setCell ⟨Yx + 3, 0, none⟩ v).setCell ⟨Yx + 5, 0, none⟩ (.bool b)).setCell ⟨Yx + 4, 0, none⟩ (.int .i64 ((k : Int) + 1))).heap[w.heap.size]? = _ := (set_far (by omega) _).trans ((set_far (by omega) _).trans ((set_far (by omega) _).trans h.ym))
  exact ⟨by simp only [World.frozen?, e5]; rfl, cell_box e5 rfl, cell_box e4 rfl, by simp only [World.frozen?, e4]; rfl, cell_box (set1 e4) rfl, cell_box e0 rfl⟩
theorem fits_bd {L : List It} {cs : List Int} (hf : Fits L cs) (hp : ∀ y ∈ L, y.2 ≤ 1000000000) : ∀ x ∈ cs, 0 ≤ x ∧ x ≤ 1000000000000 := fun x hx => by
  obtain ⟨i, hi, rfl⟩ := List.getElem_of_mem hx
  have hil : i < L.length := by have := hf.len; omega
  have h1 := hf.at_ i _ _ (List.getElem?_eq_getElem hil) (List.getElem?_eq_getElem hi)
  have h2 := hp _ (List.getElem_mem hil)
  omega
set_option maxRecDepth 100000 in
set_option maxHeartbeats 8000000 in
theorem bagParts_walk (a0 : Option Addr) (c0 : Nat) (l0 : List Th) (most : Int) (w : World) (hT0 : ThsAt w a0 l0.length l0) (hn : l0.length ≤ 1048576) (hmb : -9223372036854775808 ≤ most ∧ most ≤ 9223372036854775807) :
    Calls Try.prog 7 #[.slice a0 l0.length c0, .int .i64 most] w fun e w' => e = .returned (.bool true) ∧ Below w.heap.size w w' := by
  refine (callsIn_wide (n := 20)).1 ?_
  obtain ⟨hL, hLn⟩ := mk_bg l0 (by omega)
  have b0 := alloc_below0 w (.cells #[.int .i64 most] 3)
  have n0 := World.alloc_heap_new w (.cells #[.int .i64 most] 3)
  have b1 := alloc_below0 (w.alloc (.cells #[.int .i64 most] 3)) (.cells #[.bool false] 4)
  have n1 := World.alloc_heap_new (w.alloc (.cells #[.int .i64 most] 3)) (.cells #[.bool false] 4)
  have hB1 := b0.trans (b1.mono b0.size)
  have N0 := (b1.block _ (Array.getElem?_eq_some_iff.1 n0).1).trans n0
  simp only [World.size_alloc] at n1
  have HM0 := hid (made_any a0 c0 l0 _ (hT0.below hB1) (by omega))
  have HB1 := hid hB1; have HN0 := hid N0; have HN1 := hid n1
  clear b0 n0 b1 n1 hB1 N0 hT0
  have hLs : sumN (mkP l0) = l0.length := (mkP_all l0).2.2
  generalize hl0 : mkP l0 = L at hL hLn HM0 hLs
  have HL := hid hL
  have HPO : Hid (∀ y ∈ L, y.2 ≤ 1000000000) := hid fun y hy => by
    obtain ⟨i, hi, rfl⟩ := List.getElem_of_mem hy
    have := sumN_le L hL.pos i hi
    omega
  clear hl0 hL hLs
  generalize l0.length = n0 at HM0 hn ⊢
  refine callsIn_of_wp_marks Try.func7 rfl trivial (wpIn_wide.2 ?_) rfl
  simp only [Try.ntmps7, List.size_toArray, List.length_cons, List.length_nil, Nat.reduceAdd, Nat.reduceSub, Array.replicate_succ, Array.replicate_zero, List.push_toArray, List.append_toArray, List.nil_append, List.cons_append]
  go_wp2_with fail
  refine HM0.out.mono ?_
  rintro e w1 ⟨Bx, px, cx, qx, dx, rfl, hAx, hOx, hBx, hb1⟩
  have y0 : ((w1.alloc (.cells #[.pointer none] 24)).alloc (.cells #[.slice none 0 0] 27)).cell? ⟨w1.heap.size, 0, none⟩ = some (.pointer none) := by
    rw [(alloc_below0 (w1.alloc (.cells #[.pointer none] 24)) _).cell (by simp)]
    exact cell_box (World.alloc_heap_new w1 _) rfl
  have y1 : ((w1.alloc (.cells #[.pointer none] 24)).alloc (.cells #[.slice none 0 0] 27)).cell? ⟨w1.heap.size + 1, 0, none⟩ = some (.slice none 0 0) := by
    have := World.alloc_heap_new (w1.alloc (.cells #[.pointer none] 24)) (.cells #[.slice none 0 0] 27)
    simp only [World.size_alloc] at this
    exact cell_box this rfl
  go_upto_region 2 with fail
  clear y0 y1
  have d1 := alloc_below0 w1 (.cells #[.pointer (some ⟨Bx, 0, none⟩)] 24)
  have d2 := alloc_below0 (w1.alloc (.cells #[.pointer (some ⟨Bx, 0, none⟩)] 24)) (.cells #[.slice qx L.length dx] 27)
  have hD := d1.trans (d2.mono d1.size)
  have m1 := (d2.block _ (Array.getElem?_eq_some_iff.1 (World.alloc_heap_new w1 (.cells #[.pointer (some ⟨Bx, 0, none⟩)] 24))).1).trans (World.alloc_heap_new w1 (.cells #[.pointer (some ⟨Bx, 0, none⟩)] 24))
  have m2 := World.alloc_heap_new (w1.alloc (.cells #[.pointer (some ⟨Bx, 0, none⟩)] 24)) (.cells #[.slice qx L.length dx] 27)
  simp only [World.size_alloc] at m2
  have hm0 := (hD.block _ (Nat.lt_of_lt_of_le (Array.getElem?_eq_some_iff.1 HN0.out).1 hb1.size)).trans ((hb1.block _ (Array.getElem?_eq_some_iff.1 HN0.out).1).trans HN0.out)
  have hm1 := (hD.block _ (Nat.lt_of_lt_of_le (Array.getElem?_eq_some_iff.1 HN1.out).1 hb1.size)).trans ((hb1.block _ (Array.getElem?_eq_some_iff.1 HN1.out).1).trans HN1.out)
  have hbag := bag_mono (hAx.below hD) (Nat.zero_le _)
  have hrow := owns60_mono (owns60_below hOx hD) (Nat.zero_le _)
  have hlow := (HB1.out.trans (hb1.mono HB1.out.size)).trans (hD.mono (Nat.le_trans HB1.out.size hb1.size))
  have hrq : ∀ g, qx.map Addr.block = some g → g < w1.heap.size := fun g hg => (hOx.lt g (by rw [own_eq]; exact hg)).2
  have hrp : ∀ g, px.map Addr.block = some g → g < w1.heap.size := fun g hg => (hAx.2.1.lt g (by rw [own_eq]; exact hg)).2
  have hBl : Bx < w1.heap.size := hAx.1.lt
  have hww : w.heap.size + 1 < w1.heap.size := Nat.lt_of_lt_of_le (Array.getElem?_eq_some_iff.1 HN1.out).1 hb1.size
  have hVs : ((w1.alloc (.cells #[.pointer (some ⟨Bx, 0, none⟩)] 24)).alloc (.cells #[.slice qx L.length dx] 27)).heap.size = w1.heap.size + 1 + 1 := by simp only [World.size_alloc]
  have HF := hid (And.intro hm0 (And.intro hm1 (And.intro m1 (And.intro m2 (And.intro hbag (And.intro hrow (And.intro hlow (And.intro hrq (And.intro hrp (And.intro hBl (And.intro hww hVs)))))))))))
  have t0 := cell_box m1 (i := 0) rfl
  have t1 := cell_box hm0 (i := 0) rfl
  have f1 : ((w1.alloc (.cells #[.pointer (some ⟨Bx, 0, none⟩)] 24)).alloc (.cells #[.slice qx L.length dx] 27)).frozen? ⟨w.heap.size, 0, none⟩ = false := by simp only [World.frozen?, hm0]; rfl
  clear hAx hOx hBx hb1 d1 d2 hD m1 m2 hm0 hm1 hbag hrow hlow hrq hrp hBl hww hVs HM0
  generalize ((w1.alloc (.cells #[.pointer (some ⟨Bx, 0, none⟩)] 24)).alloc (.cells #[.slice qx L.length dx] 27)) = V1 at HF t0 t1 f1 ⊢
  generalize w1.heap.size = Yx at HF t0 ⊢
  go_upto_region 4 with fail
  rename_i K1 hK1 K2 hK2
  have HREST : Hid (∀ (u19 u20 u21 u22 u23 u24 : Value) (W : World) (mst : Nat), 1 ≤ mst → mst ≤ 300 → W.heap[w.heap.size]? = some (.cells #[.int .i64 mst] 3 (0, 0)) → Fr (fun b => b = w.heap.size) V1 W → W.heap.size = Yx + 1 + 1 → K1 { tmps := #[.slice a0 n0 c0, .int .i64 most, undef, .pointer (some ⟨w.heap.size, 0, none⟩), .pointer (some ⟨w.heap.size + 1, 0, none⟩), .pointer (some ⟨Yx, 0, none⟩), .pointer (some ⟨Yx + 1, 0, none⟩), undef, undef, undef, undef, undef, .tuple #[.pointer (some ⟨Bx, 0, none⟩), .agg #[.slice qx L.length dx]], .slice a0 n0 c0, .tuple #[.pointer (some ⟨Bx, 0, none⟩), .agg #[.slice qx L.length dx]], .pointer (some ⟨Bx, 0, none⟩), .agg #[.slice qx L.length dx], .pointer (some ⟨Bx, 0, none⟩), .bool false, u19, u20, u21, u22, u23, u24, undef, undef, undef, undef, undef, undef, undef, undef, undef, undef, undef, undef, undef, undef, undef, undef, undef, undef, undef, undef, undef, undef, undef, undef, undef, undef, undef, undef, undef, undef, undef, undef, undef, undef, undef, undef, undef, undef, undef, undef, undef, undef, undef, undef, undef, undef, undef, undef], defers := [] } W) := hid (by
    intro u19 u20 u21 u22 u23 u24 W mst hm1 hm2 hym hfr hsz
    obtain ⟨hm0, hmr, m1, m2, hbag, hrow, hlow, hrq, hrp, hBl, hww, hVs⟩ := HF.out
    obtain ⟨i0, hi0, hz0, hz1, hz2⟩ := info_parts Try.info3
    have hmk := run_make (P := Try.prog) W 50 3 i0 _ Try.underlying50 hi0 hz0 .i64 .i64 (L.length : Int) (L.length : Int) (by omega) (Int.le_refl _) (by rw [hz2]; omega) (by omega)
    rw [hz1, Int.toNat_natCast] at hmk
    have hmc := made_c L.length
    obtain ⟨cur, hcur⟩ : ∃ cur, madeCells (Value.int .i64 0).cells (L.length * 1) = cur := ⟨_, rfl⟩
    have hcs : cur.size = L.length * 1 := by rw [← hcur, size_madeCells]
    rw [hcur] at hmk hmc
    rw [Nat.mul_one] at hcs
    have yx := (hfr.same Yx (by omega) (by omega)).trans m1
    have yy := (hfr.same (Yx + 1) (by omega) (by omega)).trans m2
    have yr := (hfr.same (w.heap.size + 1) (by omega) (by omega)).trans hmr
    have hrow' := owns60_fr hrow hfr (fun g hg e => by
      rcases hrow.2 with ⟨h2, _⟩ | ⟨g', cap, cur', h2, _, h3, _⟩
      · rw [h2] at hg; cases hg
      · rw [h2] at hg
        have h7 : g' = g := Option.some.inj hg
        rw [h7, e, hm0] at h3
        injection h3 with h3
        injection h3 with _ h3
        exact absurd h3 (by decide))
    have hbag' : BagAt 0 Bx W L px cx := ⟨(hfr.same Bx (by omega) (fun e => by
      have h3 : V1.heap[Bx]? = _ := hbag.1
      rw [e, hm0] at h3
      injection h3 with h3
      injection h3 with _ h3
      exact absurd h3 (by decide))).trans hbag.1, owns_fr hbag.2.1 hfr (fun g hg e => by
      rcases hbag.2.1.2 with ⟨h2, _⟩ | ⟨g', cap, cur', h2, _, h3, _⟩
      · rw [h2] at hg; cases hg
      · rw [h2] at hg
        have h7 : g' = g := Option.some.inj hg
        rw [h7, e, hm0] at h3
        injection h3 with h3
        injection h3 with _ h3
        exact absurd h3 (by decide)), hbag.2.2⟩
    have hlow' := hlow.trans (hfr.below (fun b e => by omega) hlow.size)
    have HPS := hid (fun r => pt_start w W Yx Bx mst L px cx qx dx cur r HL.out hmc hcs hLn hsz hww hym yr yx yy hbag' hrow' hBl hrp hrq hlow' _ rfl)
    have c1 := cell_box yy (i := 0) rfl
    have c0 := cell_box yx (i := 0) rfl
    clear hm0 hmr m1 m2 hbag hrow hlow hrq hrp hBl hww hVs hfr hym yx yy yr hrow' hbag' hlow' hmc hcs hcur
    rw [hsz] at hmk
    refine hK1 _ _ ?_
    go_wp2_with fail
    refine (parts_any Bx _).mono ?_
    rintro e w2 ⟨rfl, rfl⟩
    go_wp2_with fail
    generalize (((((W.alloc (.cells cur 3)).alloc (.cells #[.slice (some ⟨Yx + 1 + 1, 0, none⟩) L.length L.length] 50)).alloc (.cells #[.int .i64 0] 3)).alloc (.cells #[.bool true] 4)).alloc (.cells #[.pointer (some ⟨Bx, 0, none⟩)] 24)) = A5 at HPS ⊢
    have hA5 := (HPS.out default).1
    clear hmk c0 c1 hsz
    refine (wpIn_wide (n := 20)).1 ?_
    refine range_law (n := 20) rfl (by omega) (gf := 46) (lb := #[.pointer (some ⟨Yx + 6, 0, none⟩)]) rfl trivial (enters_of Try.func46 (by kernel_rfl) rfl) ?_
    intro r hr1 hr2 hr3 hr4 hr5 hr6 hr7
    obtain ⟨_, hS0, hL0, hLK0⟩ := HPS.out r
    rw [hA5]
    generalize ((A5.alloc (.deferred (some []))).alloc (.loop r)) = W0 at hS0 hL0 hLK0 ⊢
    refine (parts_in 11 (Yx + 7 + 1) (Yx + 6) Bx 0 px cx L HL.out hLn HPO.out mst
      (fun B1 k st W => LK w (Yx + 9) B1 w.heap.size Yx Bx mst L px cx qx dx k st W ∧ W.heap[Yx + 8]? = some (.loop r) ∧ Yx + 9 ≤ W.heap.size)
      (fun B1 W => (∃ st, LK w (Yx + 9) B1 w.heap.size Yx Bx mst L px cx qx dx mst st W) ∧ W.heap[Yx + 8]? = some (.loop { r with state := .done, pending := some (.exit 0) }) ∧ Yx + 9 ≤ W.heap.size) W0 ?_ ?_ ?_ ?_ hm1 ?_ ?_).mono ?_
    · rintro B1 k st W W' ⟨h, hl, hz⟩ hf
      rw [hS0] at hf
      exact ⟨h.fr hz (by have := h.far; omega) hf, (hf.same _ (by omega) (by omega)).trans hl, Nat.le_trans hz hf.low.size⟩
    · rintro B1 W W' ⟨⟨st, h⟩, hl, hz⟩ hf
      rw [hS0] at hf
      exact ⟨⟨st, h.fr hz (by have := h.far; omega) hf⟩, (hf.same _ (by omega) (by omega)).trans hl, Nat.le_trans hz hf.low.size⟩
    · rintro B1 k st W ⟨h, _, _⟩
      exact ⟨h.bb, h.bag.1⟩
    · rintro mm B1 k cs W Bp pp cp hB1 hk ⟨hlk, hl, hz⟩ hcl hA hBp
      refine yield_by hr5 hr6 hr3 hr4 hl hr1 rfl hr7 ?_
      obtain ⟨_, _, _, _, _, _, _, hrq, hrp, hBl, hww, _⟩ := HF.out
      have hl8 : W.heap[Yx + 8]? = some (.loop r) := hl
      have hlt8 := (Array.getElem?_eq_some_iff.1 hl8).1
      have hz2 : Yx + 9 ≤ (W.putObj (Yx + 8) (.loop { r with state := .busy })).heap.size := by rw [show (W.putObj (Yx + 8) (.loop { r with state := .busy })).heap.size = W.heap.size by simp [World.putObj]]; exact hz
      have HK2 := hid (hlk.put hl8 (by omega) (.loop { r with state := .busy }))
      have HL2 := hid (World.putObj_heap_same (o := .loop { r with state := .busy }) hlt8)
      have HA2 : Hid (BagAt B1 Bp (W.putObj (Yx + 8) (.loop { r with state := .busy })) (partP L cs) pp cp) := hid ⟨put_cells hl8 hA.1 _, put_row hl8 hA.2.1 _, hA.2.2⟩
      have HSM : Hid (∀ b, Yx + 9 ≤ b → (W.putObj (Yx + 8) (.loop { r with state := .busy })).heap[b]? = W.heap[b]?) := hid fun b hb => World.putObj_heap_other (by omega)
      have HX := hid (And.intro hrq (And.intro hrp (And.intro hBl hww)))
      have HZ2 := hid hz2
      have HS0 := hid hS0
      rw [hS0] at hB1
      have HH := hid (And.intro hB1 (And.intro hk (And.intro hcl hBp)))
      clear hr3 hr4 hr5 hr6 hlk hA hLK0 hL0 hS0 hA5 HPS hrq hrp hBl hww hz hz2 hlt8 hl8 hB1 hk hcl hBp
      simp only [List.zip_toArray, List.zip_cons_cons, List.zip_nil_right, List.foldl_toArray, List.foldl_cons, List.foldl_nil, List.setIfInBounds_toArray, List.set_cons_succ, List.set_cons_zero]
      gi_wp2
      refine ⟨hl, ?_⟩
      clear hl
      show Code.wpIn _ _ _ _ _ _ (W.putObj (Yx + 8) (.loop { r with state := .busy }))
      generalize W.putObj (Yx + 8) (.loop { r with state := .busy }) = W2 at HK2 HL2 HA2 HSM HZ2 ⊢
      obtain ⟨q, d, nq, hyc, hqq⟩ := HK2.out.yc
      obtain ⟨rfl, hcr, hfit, hfq⟩ := hqq cs rfl
      have HCR := hid hcr; have HFT := hid hfit; have HFQ := hid hfq; have HYC := hid hyc
      clear hqq hcr hfit hfq hyc
      have o0 : W2.cell? ⟨Yx + 5, 0, none⟩ = some (.bool true) := cell_box HK2.out.yo rfl
      have o1 := cell_box HK2.out.yy (i := 0) rfl
      have o2 : W2.cell? ⟨Yx + 3, 0, none⟩ = some (.slice q cs.length d) := cell_box HYC.out rfl
      have HPT := hid (rpart_any qx dx L q d 0 cs W2 HK2.out.row HCR.out HL.out.srt HH.out.2.2.1 hLn)
      have hB1p : B1 ≤ W2.heap.size := by
        have := HA2.out.1.lt
        have := HH.out.2.2.2
        omega
      have R2 : Hid (RS w (Yx + 9) B1 Yx Bx mst L px cx qx dx k cs { r with state := .busy } W W2) := hid ⟨HK2.out, HL2.out, fun b h1 _ => HSM.out b h1, HZ2.out, hB1p⟩
      have HPB := hid (part_bg HL.out HFT.out)
      have HPN : (partP L cs).length ≤ 1048576 := Nat.le_trans (keepP_len _ _) hLn
      clear hB1p
      gi_wp2_with fail
      refine ⟨trivial, (fun h => by cases h), ?_⟩
      refine (CallsIn.inRound _ (callsIn_wide.2 HPT.out)).mono ?_
      rintro e W3 ⟨q2, d2, rfl, ho3, hb3⟩
      have R3 := hid (R2.out.below hb3)
      have A3 := hid (HA2.out.below hb3)
      have HRD := hid (reads_ok HPB.out HPN B1 Bp pp cp q2 d2 W3 A3.out ho3)
      clear o0 o1 o2 ho3 hb3 HPT HCR HFQ HYC
      gi_wp2_with fail
      refine ⟨trivial, (fun h => by cases h), ?_⟩
      refine (CallsIn.inRound _ (callsIn_wide.2 HRD.out)).mono ?_
      rintro e W4 ⟨rfl, hb4⟩
      have R4 := hid (R3.out.below hb4)
      have A4 := hid (A3.out.below hb4)
      have hwt := within_any Bp Bx B1 0 pp cp px cx (partP L cs) L W4 A4.out R4.out.lk.bag HPN HL.out hLn
      rw [part_within HL.out HFT.out] at hwt
      have HWT := hid hwt
      have o1 := cell_box R4.out.lk.yx (i := 0) rfl
      clear hwt hb4 HRD R3 A3
      gi_wp2_with fail
      refine ⟨trivial, (fun h => by cases h), ?_⟩
      refine (CallsIn.inRound _ (callsIn_wide.2 HWT.out)).mono ?_
      rintro e W5 ⟨rfl, hb5⟩
      have R5 := hid (R4.out.below hb5)
      have A5 := hid (A4.out.below hb5)
      have hcb5 := cnt_bd HPB.out.pos 5
      have hsb5 := HPB.out.sum
      have HAD := hid (add_any B1 Bp pp cp (partP L cs) (5, 5) 3 W5 A5.out R5.out.b1 HPB.out.srt HPN (by omega) (show -1000000000000 ≤ cntK 5 (partP L cs) ∧ cntK 5 (partP L cs) ≤ 1000000000000 from ⟨by omega, by omega⟩))
      clear o1 hb5 HWT R4 A4 hcb5 hsb5
      gi_wp2_with fail
      refine ⟨trivial, (fun h => by cases h), ?_⟩
      refine (CallsIn.inRound _ (callsIn_wide.2 HAD.out)).mono ?_
      rintro e W6 ⟨p6, c6, rfl, hA6, hF6, hq6⟩
      have R6 := hid (R5.out.add (by have := HH.out.1; omega) A5.out HH.out.2.2.2 hF6)
      obtain ⟨q6, d6, n6, hyc6, hqq6⟩ := R6.out.lk.yc
      obtain ⟨rfl, hcr6, hfit6, hfq6⟩ := hqq6 cs rfl
      have o1 := cell_box R6.out.lk.yy (i := 0) rfl
      have o2 : W6.cell? ⟨Yx + 3, 0, none⟩ = some (.slice q6 cs.length d6) := cell_box hyc6 rfl
      have HNX := hid (rnext_any qx dx L q6 d6 0 cs W6 R6.out.lk.row hcr6 HH.out.2.2.1 hLn (fits_bd HFT.out HPO.out))
      clear hA6 hF6 hq6 HAD R5 A5 hyc6 hqq6 hcr6 hfit6 hfq6
      gi_wp2_with fail
      refine ⟨trivial, (fun h => by cases h), ?_⟩
      refine (CallsIn.inRound _ (callsIn_wide.2 HNX.out)).mono ?_
      rintro e W7 ⟨q7, d7, rfl, hc7, hb7⟩
      have R7 := hid (R6.out.below hb7)
      have HC7 := hid hc7
      obtain ⟨q8, d8, n8, hyc8, _⟩ := R7.out.lk.yc
      have f3 : W7.frozen? ⟨Yx + 3, 0, none⟩ = false := by simp [World.frozen?, hyc8]
      have c3 : W7.cell? ⟨Yx + 3, 0, none⟩ = some (.slice q8 n8 d8) := cell_box hyc8 rfl
      have hk7 : k < mst := HH.out.2.1
      obtain ⟨n7, hn7⟩ : ∃ n7, (if (riseP L cs).2 then (riseP L cs).1.length else 0) = n7 := ⟨_, rfl⟩
      rw [hn7]
      have HN7 := hid hn7
      obtain ⟨f5, c5, c4, f4, c4', c0'⟩ := stores_at R7.out.lk HX.out.2.2.2 (.slice q7 n7 d7) (riseP L cs).2
      have HB6 := hid R6.out.b1
      clear o1 o2 hc7 HNX R6 hyc8 hn7 hb7
      gi_wp2_with fail
      · rename_i hkk
        obtain ⟨z1, z2, z3, z4, z5⟩ := round_end R7.out HH.out.1 HX.out.2.2.2 ⟨HX.out.2.2.1, HX.out.2.1, HX.out.1⟩ HL.out.pos q7 n7 d7 W6.heap.size HB6.out HN7.out HC7.out { r with state := .done, pending := some (.exit 0) } _ rfl
        refine ⟨z1, fun b h1 h2 => z2 b (by rw [HS0.out] at h1; exact h1) h2, .inr ⟨rfl, ⟨riseO L cs, ?_⟩, z4, z5⟩⟩
        have e9 : k + 1 = mst := by
          have := eq_of_beq hkk
          omega
        rw [e9] at z3
        exact z3
      · rename_i hkk
        obtain ⟨z1, z2, z3, z4, z5⟩ := round_end R7.out HH.out.1 HX.out.2.2.2 ⟨HX.out.2.2.1, HX.out.2.1, HX.out.1⟩ HL.out.pos q7 n7 d7 W6.heap.size HB6.out HN7.out HC7.out r _ rfl
        refine ⟨z1, ?_⟩
        rw [loop_again hr1 hr2]
        exact ⟨fun b h1 h2 => z2 b (by rw [HS0.out] at h1; exact h1) h2, .inl ⟨rfl, (by
          have : ((k : Int) + 1) ≠ (mst : Int) := by
            intro e9
            rw [e9] at hkk
            simp at hkk
          omega), z3, z4, z5⟩⟩
    · exact fun B1 hB1 => ⟨hLK0 B1 (by omega), hL0, by omega⟩
    · exact (hLK0 (Yx + 9) (Nat.le_refl _)).bag
    · rintro e W ⟨⟨v, rfl⟩, B1, hB1, (⟨k, hlk, hl, hz⟩ | ⟨⟨st, hlk⟩, hl, hz⟩)⟩
      · refine ⟨⟨v, rfl⟩, hlk.df, .inl ⟨hl, ?_⟩⟩
        have hz3 : Yx + 9 ≤ (W.putObj (Yx + 8) (.loop { r with state := .exhausted })).heap.size := by rw [show (W.putObj (Yx + 8) (.loop { r with state := .exhausted })).heap.size = W.heap.size by simp [World.putObj]]; exact hz
        have HZ3 := hid hz3
        have HLK := hid (hlk.put hl (by have := HF.out.2.2.2.2.2.2.2.2.2.2.1; omega) (.loop { r with state := .exhausted }))
        clear hr1 hr2 hr3 hr4 hr5 hr6 hr7 hlk hl hz hz3 hLK0 hL0 hS0 hA5 HPS
        generalize W.putObj (Yx + 8) (.loop { r with state := .exhausted }) = W3 at HLK HZ3 ⊢
        have k0 := cell_box HLK.out.yx (i := 0) rfl
        have k1 := cell_box HLK.out.yy (i := 0) rfl
        have HRD := hid (reads_ok HL.out hLn 0 Bx px cx qx dx W3 HLK.out.bag HLK.out.row)
        go_wp2_with fail
        refine HRD.out.mono ?_
        rintro e W4 ⟨rfl, hb4⟩
        have HL4 := hid (HLK.out.below HZ3.out hb4)
        have k2 := cell_box HL4.out.yo (i := 0) rfl
        have k3 := cell_box HL4.out.yr (i := 0) rfl
        have z3 : W4.frozen? ⟨w.heap.size + 1, 0, none⟩ = false := by simp [World.frozen?, HL4.out.yr]
        go_wp2_with fail
        obtain ⟨p1, p2, p3⟩ := pt_low HL4.out HF.out.2.2.2.2.2.2.2.2.2.2.1 true
        refine ⟨by simp, .inl ⟨_, _, rfl, run_takeDeferred p1, ?_⟩⟩
        exact ⟨_, results_c1 rfl rfl (load_bool p2), rfl, p3⟩
      · refine ⟨⟨v, rfl⟩, hlk.df, .inr ⟨.exit 0, hl, ?_⟩⟩
        have hz3 : Yx + 9 ≤ (W.putObj (Yx + 8) (.loop { r with state := .exhausted, pending := some (.exit 0) })).heap.size := by rw [show (W.putObj (Yx + 8) (.loop { r with state := .exhausted, pending := some (.exit 0) })).heap.size = W.heap.size by simp [World.putObj]]; exact hz
        have HZ3 := hid hz3
        have HLK := hid (hlk.put hl (by have := HF.out.2.2.2.2.2.2.2.2.2.2.1; omega) (.loop { r with state := .exhausted, pending := some (.exit 0) }))
        clear hr1 hr2 hr3 hr4 hr5 hr6 hr7 hlk hl hz hz3 hLK0 hL0 hS0 hA5 HPS
        generalize W.putObj (Yx + 8) (.loop { r with state := .exhausted, pending := some (.exit 0) }) = W3 at HLK HZ3 ⊢
        have k0 := cell_box HLK.out.yx (i := 0) rfl
        have k1 := cell_box HLK.out.yy (i := 0) rfl
        have HRD := hid (reads_ok HL.out hLn 0 Bx px cx qx dx W3 HLK.out.bag HLK.out.row)
        refine wpIn_wide.2 ?_
        go_wp2_with fail
        refine HRD.out.mono ?_
        rintro e W4 ⟨rfl, hb4⟩
        have HL4 := hid (HLK.out.below HZ3.out hb4)
        have k2 := cell_box HL4.out.yo (i := 0) rfl
        have k3 := cell_box HL4.out.yr (i := 0) rfl
        have k4 : W4.cell? ⟨Yx + 4, 0, none⟩ = some (.int .i64 mst) := cell_box HL4.out.yn rfl
        have k5 : W4.cell? ⟨w.heap.size, 0, none⟩ = some (.int .i64 mst) := cell_box HL4.out.ym rfl
        have z3 : W4.frozen? ⟨w.heap.size + 1, 0, none⟩ = false := by simp [World.frozen?, HL4.out.yr]
        obtain ⟨p1, p2, p3⟩ := pt_low HL4.out HF.out.2.2.2.2.2.2.2.2.2.2.1 true
        have P1 := hid p1; have P2 := hid p2; have P3 := hid p3
        clear p1 p2 p3
        cases st with
        | none =>
          go_wp2_with fail
          refine ⟨by simp, .inl ⟨_, _, rfl, run_takeDeferred P1.out, ?_⟩⟩
          exact ⟨_, results_c1 rfl rfl (load_bool P2.out), rfl, P3.out⟩
        | some cs =>
          go_wp2_with fail
          refine ⟨by simp, .inl ⟨_, _, rfl, run_takeDeferred P1.out, ?_⟩⟩
          exact ⟨_, results_c1 rfl rfl (load_bool P2.out), rfl, P3.out⟩)
  clear hK1
  have hV1 : V1.heap.size = Yx + 1 + 1 := HF.out.2.2.2.2.2.2.2.2.2.2.2
  by_cases h1 : most < 1
  · go_wp2_with fail
    exact HREST.out _ _ _ _ _ _ _ 300 (by omega) (by omega) (set1 HF.out.1) (fr_set V1 w.heap.size 0 _) (by simp [World.setCell, hV1])
  · by_cases h2 : 300 < most
    · go_wp2_with fail
      exact HREST.out _ _ _ _ _ _ _ 300 (by omega) (by omega) (set1 HF.out.1) (fr_set V1 w.heap.size 0 _) (by simp [World.setCell, hV1])
    · go_wp2_with fail
      exact HREST.out _ _ _ _ _ _ _ most.toNat (by omega) (by omega) (by rw [Int.toNat_of_nonneg (by omega)]; exact HF.out.1) (Fr.refl _ _) hV1
end Go.Proofs.Ytlbmamkkbpjafaa

namespace Go.Proofs.Ytlbmamkkbpjafaa
open Go.ChangeShapes Go.WideShapes Go.ChangeAt Go.RowKit Go.Deep

theorem bagParts_contract (H : Type) (enc : TypeId × Value → H) (W : World) (base : Nat) (args : Array Value) (ds gs : List (DataW H)) (before : List MemPlace)
    (hval : ∀ (j : Nat) t v, Try.f7.params[j]? = some t → args[j]? = some v → Value.okWide Try.prog W .any base t v)
    (hW : DataW.Whole enc Try.prog Try.f7.params.toList Rows.bagPartsSpec.vars false W args.toList ds gs before) (hk : Rows.uptoSmall H (ds ++ gs) = true) :
    Calls Try.prog 7 args W fun e W' => ∃ v, e = .returned v ∧ Rows.bagPartsSpec.post enc Try.prog Try.f7 false true false false W args v W' := by
  have hW' := hW
  obtain ⟨p, q, hA0, hV, rfl, hfz, hnd⟩ := hW
  have hA : DataW.TrodAll enc Try.prog W 0 (fun _ => true) true Try.f7.params.toList args.toList ds p := hA0
  rw [Try.params7] at hA hval
  obtain ⟨v0, vs0, d0, ds0, p0, q0, hargs, rfl, rfl, h0, r0⟩ := trodAll_cons hA
  obtain ⟨v1, vs1, d1, ds1, p1, q1, rfl, rfl, rfl, h1, r1⟩ := trodAll_cons r0
  obtain ⟨rfl, rfl, rfl⟩ := trodAll_nil r1
  obtain rfl : args = #[v0, v1] := by cases args; simp_all
  obtain ⟨rfl, rfl⟩ := trodVars_none hV
  have lt0 : ∀ x ∈ p0, x.block < W.heap.size := by obtain ⟨m, hm⟩ := h0; exact DataW.trod_lt m _ _ _ hm
  have lt1 : ∀ x ∈ p1, x.block < W.heap.size := by obtain ⟨m, hm⟩ := h1; exact DataW.trod_lt m _ _ _ hm
  obtain ⟨a0, len0, cap0, rfl⟩ := okWide_slice Try.underlying23 (hval 0 23 v0 rfl rfl)
  have k1 := h1
  obtain ⟨m, rfl, hd1, hp1, hwf⟩ := open_int Try.underlying3 (hval 1 3 v1 rfl rfl) h1
  obtain ⟨⟨l, hl⟩, _, hbk0⟩ := ths_open2 h0
  obtain rfl := hl.len
  clear hA0
  simp only [List.append_nil] at hW' hk
  have hsm := small_two hk
  refine (bagParts_walk a0 cap0 l m W hl (by omega) (by simp only [Lit.wf, Bool.and_eq_true, decide_eq_true_eq] at hwf; exact hwf)).mono fun e W' ⟨he, bel⟩ => ?_
  subst he
  exact ⟨_, rfl, _, _, _, [], _, [], hW', trodAll_mk1 (shut_bool Try.underlying4 _), (trodAll_cons_mk (Below.trod laidOut (by kernel_rfl) (of_decide_eq_true (by kernel_rfl)) h0 bel lt0) (trodAll_cons_mk (Below.trod laidOut (by kernel_rfl) (of_decide_eq_true (by kernel_rfl)) k1 bel lt1) trodAll_mk0)), rfl, bel.frame _, fun h => by cases h⟩

set_option maxRecDepth 100000 in
theorem bagParts_lifted (os : Os) (started : os.Started) (H : Type) (enc : TypeId × Value → H) (F : Stop.Interp) :
    ReturnsInHanded {} Try.checked os 7 .any ((Rows.OpenSpec.upto Rows.bagPartsSpec).pre6 enc Try.prog Try.f7 Rows.bagPartsUptoRow.domain false) (((Rows.OpenSpec.upto Rows.bagPartsSpec).at F).post enc Try.prog Try.f7 false true false false) := by
  refine returnsInHanded_of_cond (C := Try.checked) (s := Rows.OpenSpec.upto Rows.bagPartsSpec) (k := Rows.uptoSmall) rfl own started (by kernel_rfl) Try.func7
    (OpenSpec.witness (enc := enc) (C := Try.checked) (s := Rows.OpenSpec.upto Rows.bagPartsSpec) (k := Rows.uptoSmall) rfl false ⟨#[], #[.slice none 0 0, .int .i64 0], []⟩ 8 (by kernel_rfl) (by kernel_rfl) (by kernel_rfl)
      (x := ([.nil, .lit (.int .i64 0)], [], [])) (by kernel_rfl) rfl (by kernel_rfl)) ?_
  intro W base args ds gs before hval hW _ hk _
  exact bagParts_contract H enc W base args ds gs before hval hW hk

theorem bagParts_holds : Rows.BagPartsUptoSaid :=
  OpenClaim.holds_of_cond 7 Try.f7 rfl rfl rfl rfl rfl rfl rfl ⟨rfl, rfl, rfl, rfl, rfl⟩ rfl rfl rfl rfl rfl (by kernel_rfl) Try.func7 (by kernel_rfl)
    (of_decide_eq_true (by kernel_rfl)) (by unfold Func.isWrapper; first | (rw [if_pos (by decide +kernel)]; kernel_rfl) | (rw [if_neg (by decide +kernel)]; exact ⟨rfl, rfl⟩))
    (fun os started H enc _ F => bagParts_lifted os started H enc F)
end Go.Proofs.Ytlbmamkkbpjafaa
