/- For every derivation of bulk at most 1048576, DeriveReturns returns true: steps that could be done lead back to the term, each by its Back, the last one first; the condition is the second form's bound. -/
import Derived.Test.YtokbgbbkopmngabTPath
import Derived.Test.YtokbgbbkopmngabDvM
import Derived.Maps.AppendAt
import Derived.Test.YtokbgbbkopmngabDvG
import Derived.Test.YtokbgbbkopmngabDvQ
import Derived.Test.YtokbgbbkopmngabTRChkB
import Derived.Test.YtokbgbbkopmngabDvR
import Derived.Test.YtokbgbbkopmngabRows
import Derived.Test.YtokbgbbkopmngabTMem
import Derived.Lib.SmallJoins
import Derived.SizedLaws
import Derived.ProofKit
import Derived.OpenShut
import Derived.ShutString
import Derived.ChangeOld
import Derived.SliceStrings
import Derived.ChangeMaps5
import Derived.JoinedCond
import Derived.Test.YtokbgbbkopmngabKDvH
import Derived.Test.YtokbgbbkopmngabKDvO1
import Derived.Test.YtokbgbbkopmngabKDvO3
import Derived.Test.YtokbgbbkopmngabKDvO5
import Derived.Test.YtokbgbbkopmngabKRExact
/- A place: do, whatever the step. -/
namespace Go.Proofs.Ytokbgbbkopmngab
open Go.RowKit Go.Deep

theorem do_any (S : Option Addr) (n cap b o : Nat) (L : List Sym) (A : Bl) (t : Tn) (a : Option Addr) (c : Nat) (ks : List Kv) (cur : Array Value) (p : Sp) (pa : Option Addr) (pn pc : Nat) (w : World)
    (hS : SigAt w S n L) (hP : Pl w b o A t.1 a c ks cur) (hks : ks.map Kv.tn = kidsL t.2) (hn : nodesF t.2 ≤ 1048576) :
    Calls Try.prog 22 #[placeV S n cap b o (unitI L t.1.2) (unitOk L t.1.2), stepV p pa pn pc] w (DeedEnd w b o A cur (stepN (sgOf L) t p)) := by
  by_cases h1 : p.kind = 1
  · exact do_71 S n cap b o L A t a c ks cur p pa pn pc w hS hP hks hn (by unfold deedK; rw [if_pos h1])
  · by_cases h2 : p.kind = 2
    · exact do_72 S n cap b o L A t a c ks cur p pa pn pc w hS hP hks hn (by unfold deedK; rw [if_neg h1, if_pos h2])
    · by_cases h3 : p.kind = 3
      · exact do_73 S n cap b o L A t a c ks cur p pa pn pc w hS hP hks hn (by unfold deedK; rw [if_neg h1, if_neg h2, if_pos h3])
      · by_cases h4 : p.kind = 4
        · exact do_74 S n cap b o L A t a c ks cur p pa pn pc w hS hP hks hn (by unfold deedK; rw [if_neg h1, if_neg h2, if_neg h3, if_pos h4])
        · exact do_75 S n cap b o L A t a c ks cur p pa pn pc w hS hP hks hn (by unfold deedK; rw [if_neg h1, if_neg h2, if_neg h3, if_neg h4])
end Go.Proofs.Ytokbgbbkopmngab
/- A place: doWithin: where a path leads to. -/
namespace Go.Proofs.Ytokbgbbkopmngab
open Go.RowKit Go.Deep

/-- A node within a term, and how a change of it changes the term. -/
structure Foc (w : World) (b0 o0 : Nat) (A0 : Bl) (cur0 : Array Value) (t0 : Tn) (ps : List Int) (b o : Nat) (A : Bl) (t : Tn) (a : Option Addr) (c : Nat) (ks : List Kv) (cur : Array Value) : Prop where
  at_ : Pl w b o A t.1 a c ks cur
  kids : ks.map Kv.tn = kidsL t.2
  sub : subT ps t0 = some t
  nodes : nodesF t.2 ≤ nodesF t0.2
  low : ∀ q, A q → q < w.heap.size
  back : ∀ (w1 w' : World) (t' : Tn) (A' : Bl) (a' : Option Addr) (c' : Nat) (ks' : List Kv), Below w.heap.size w w1 → ks'.map Kv.tn = kidsL t'.2 → Upd w1 w' b o A cur A' t'.1 a' c' ks' → ∃ y A0' a0 c0 ks0, putT t' ps t0 = some y ∧ ks0.map Kv.tn = kidsL y.2 ∧ Upd w1 w' b0 o0 A0 cur0 A0' y.1 a0 c0 ks0
theorem Foc.start {w : World} {b o : Nat} {A : Bl} {t : Tn} {a : Option Addr} {c : Nat} {ks : List Kv} {cur : Array Value} (hP : Pl w b o A t.1 a c ks cur) (hks : ks.map Kv.tn = kidsL t.2) (hl : ∀ q, A q → q < w.heap.size) : Foc w b o A cur t [] b o A t a c ks cur :=
  ⟨hP, hks, rfl, Nat.le_refl _, hl, fun _ _ t' A' a' c' ks' _ hk hU => ⟨t', A', a', c', ks', rfl, hk, hU⟩⟩
theorem sub_snoc (ps : List Int) (i : Int) (t0 t : Tn) (h : subT ps t0 = some t) : subT (ps ++ [i]) t0 = kidT i t.2 := by
  rw [sub_append, h]
  show (match kidT i t.2 with | none => none | some k => some k) = kidT i t.2
  cases kidT i t.2 <;> rfl
theorem put_snoc (u : Tn) (ps : List Int) (i : Int) (t0 t k : Tn) (h : subT ps t0 = some t) (hk : kidT i t.2 = some k) : putT u (ps ++ [i]) t0 = putT (t.1, setF i.toNat t.2 u) ps t0 := by
  rw [put_append u ps [i] t0 t h]
  simp only [putT, hk]
  rfl
theorem kids_setL : ∀ (n : Nat) (F : Fo) (t : Tn), kidsL (setF n F t) = (kidsL F).set n t := kids_setF
/-- One step down. -/
theorem Foc.down {w : World} {b0 o0 : Nat} {A0 : Bl} {cur0 : Array Value} {t0 : Tn} {ps : List Int} {b o : Nat} {A : Bl} {t : Tn} {g c : Nat} {ks : List Kv} {cur : Array Value} (h : Foc w b0 o0 A0 cur0 t0 ps b o A t (some ⟨g, 0, none⟩) c ks cur) {i : Nat} {y : Kv} (hy : ks[i]? = some y) :
    ∃ (A1 : Bl) (cu : Array Value) (vs : List Kv), Foc w b0 o0 A0 cur0 t0 (ps ++ [(i : Int)]) g (i * 3) A1 y.tn y.a y.c vs cu := by
  obtain ⟨g', e, hAg, hR, hG⟩ : ∃ g', some (⟨g, 0, none⟩ : Addr) = some ⟨g', 0, none⟩ ∧ A g' ∧ RowV w g' c ks ∧ GL FulE w ks (fun q => A q ∧ q ≠ g') := by
    rcases h.at_.row.row with ⟨rfl, h1, _⟩ | h
    · cases h1
    · exact h
  cases e
  have hi : i < ks.length := (List.getElem?_eq_some_iff.1 hy).1
  have hyk : (kidsL t.2)[i]? = some y.tn := by rw [← h.kids, List.getElem?_map, hy]; rfl
  have hkl := kv_len h.kids
  have hkid : kidT (i : Int) t.2 = some y.tn := by unfold kidT; rw [if_pos (by omega), Int.toNat_natCast]; exact hyk
  obtain ⟨A1, A2, a1, a2, hyF, g2⟩ := gl_pick hG hy
  obtain ⟨vs, k1, k2⟩ := FulTm.open hyF
  have hvl := kv_len k1
  obtain ⟨cu, r1, r2, r3⟩ := hR.row
  obtain ⟨y0, y1, y2⟩ := kv_cells hy
  have hc : ∀ j v, (kvCells ks)[j]? = some v → cu[j]? = some v := fun j v hv => by
    rw [← r3, List.getElem?_take] at hv
    split at hv
    · rw [Array.getElem?_toList] at hv; exact hv
    · cases hv
  have hgA1 : ¬ A1 g := fun hh => (a1 g hh).2 rfl
  refine ⟨A1, cu, vs, ⟨r1, hc _ _ y0, hc _ _ y1, by rw [hvl]; exact hc _ _ y2, k2, hgA1, hyF.sizes.name⟩, k1, by rw [sub_snoc ps i t0 t h.sub, hkid], Nat.le_trans (by have := nodes_get hyk; omega) h.nodes, fun q hq => h.low q (a1 q hq).1, ?_⟩
  intro w1 w' t' A' a' c' ks' hb1 hk' hU
  have hs1 := hb1.size
  rw [put_snoc t' ps i t0 t y.tn h.sub hkid, Int.toNat_natCast]
  have hAb : ¬ A b := h.at_.out
  have hbg : b ≠ g := fun e => hAb (e ▸ hAg)
  obtain ⟨cu', z1, z2, z3⟩ := hU.node
  have hgw : g < w.heap.size := hR.lt
  have hk'l := kv_len hk'
  -- the new row
  have hkv : FulE w' A' ⟨t'.1, t'.2, a', c'⟩ := z3.row.tmL z3.nm hk'
  have hnotb : ∀ q, A' q → q ≠ b := fun q hq e => by
    rcases hU.new q hq with h1 | h1
    · exact hAb (e ▸ (a1 q h1).1)
    · have := h.at_.lt; omega
  have hA'g : ¬ A' g := z3.out
  have hrow : RowV w' g c (ks.set i ⟨t'.1, t'.2, a', c'⟩) := by
    refine ⟨⟨cu', z3.blk, z1.trans r2, ?_⟩, by rw [List.length_set]; exact hR.fits, hR.small⟩
    rw [List.length_set]
    apply List.ext_getElem?
    intro j
    by_cases hj : j < ks.length * 3
    · rw [List.getElem?_take_of_lt hj, Array.getElem?_toList]
      by_cases hin : j < i * 3 ∨ i * 3 + 3 ≤ j
      · rw [z2 j hin]
        obtain ⟨v, hv⟩ := kvCells_get (ks := ks) (j := j) hj
        rw [hc j v hv]
        have : (kvCells (ks.set i ⟨t'.1, t'.2, a', c'⟩))[j]? = (kvCells ks)[j]? := by
          have e : ∀ m, m ≠ i → (ks.set i ⟨t'.1, t'.2, a', c'⟩)[m]? = ks[m]? := fun m hm => List.getElem?_set_ne (by omega)
          have hm : j / 3 ≠ i := by omega
          have hjm : j / 3 < ks.length := by omega
          obtain ⟨kv, hkv'⟩ : ∃ kv, ks[j / 3]? = some kv := ⟨_, List.getElem?_eq_getElem hjm⟩
          obtain ⟨p0, p1, p2⟩ := kv_cells hkv'
          obtain ⟨q0, q1, q2⟩ := kv_cells ((e _ hm).trans hkv')
          have hj3 : j = j / 3 * 3 ∨ j = j / 3 * 3 + 1 ∨ j = j / 3 * 3 + 2 := by omega
          rcases hj3 with e3 | e3 | e3 <;> rw [e3]
          · rw [q0, p0]
          · rw [q1, p1]
          · rw [q2, p2]
        rw [this, hv]
      · have hset : (ks.set i ⟨t'.1, t'.2, a', c'⟩)[i]? = some ⟨t'.1, t'.2, a', c'⟩ := List.getElem?_set_self hi
        obtain ⟨q0, q1, q2⟩ := kv_cells hset
        have hj3 : j = i * 3 ∨ j = i * 3 + 1 ∨ j = i * 3 + 2 := by omega
        rcases hj3 with e3 | e3 | e3 <;> rw [e3]
        · rw [q0, z3.c0]
        · rw [q1, z3.c1]
        · rw [q2, z3.c2, hk'l]
    · rw [List.getElem?_eq_none (by rw [List.length_take]; omega), List.getElem?_eq_none (by rw [kvCells_len, List.length_set]; omega)]
  have hGL : GL FulE w' (ks.set i ⟨t'.1, t'.2, a', c'⟩) (fun q => A' q ∨ A2 q) := by
    have hsp : List.Perm (ks.set i ⟨t'.1, t'.2, a', c'⟩) (⟨t'.1, t'.2, a', c'⟩ :: (ks.take i ++ ks.drop (i + 1))) := by
      have := pick_perm (ks := ks.set i ⟨t'.1, t'.2, a', c'⟩) (i := i) (List.getElem?_set_self hi)
      rw [List.take_set_of_le (Nat.le_refl _), List.drop_set_of_lt (by omega)] at this
      exact this
    refine GL.perm hsp.symm (GL.cons hkv (g2.keep fulE (fun q hq hlt => (hU.same q (by omega) (fun h1 => (a2 q hq).2 h1) (a2 q hq).1.2).trans (hb1.block q hlt))) (fun q hq h2 => ?_))
    rcases hU.new q hq with h1 | h1
    · exact (a2 q h2).2 h1
    · have := h.low q (a2 q h2).1.1; omega
  refine h.back w1 w' (t.1, setF i t.2 t') (fun q => (A' q ∨ A2 q) ∨ q = g) (some ⟨g, 0, none⟩) c (ks.set i ⟨t'.1, t'.2, a', c'⟩) hb1 (by rw [kids_setL, ← h.kids, List.map_set]; rfl) ⟨hU.low, fun q hq hA hne => hU.same q hq (fun h1 => hA (a1 q h1).1) (fun e => hA (e ▸ hAg)), fun q hq => ?_, cur, rfl, fun _ _ => rfl, ?_⟩
  · rcases hq with (hq | hq) | hq
    · exact (hU.new q hq).imp (fun h1 => (a1 q h1).1) id
    · exact .inl (a2 q hq).1.1
    · exact .inl (hq ▸ hAg)
  · refine ⟨((hU.same b (Nat.lt_of_lt_of_le h.at_.lt hs1) (fun h1 => hAb (a1 b h1).1) hbg).trans (hb1.block b h.at_.lt)).trans h.at_.blk, h.at_.c0, h.at_.c1, by rw [List.length_set]; exact h.at_.c2, ⟨by rw [List.length_set]; exact h.at_.row.few, .inr ⟨g, rfl, .inr rfl, hrow, hGL.mono (fun q hq => ⟨.inl hq, ?_⟩)⟩⟩, ?_, h.at_.nm⟩
    · rcases hq with hq | hq
      · exact fun e => hA'g (e ▸ hq)
      · exact (a2 q hq).1.2
    · rintro ((hq | hq) | hq)
      · exact hnotb b hq rfl
      · exact hAb (a2 b hq).1.1
      · exact hbg hq
end Go.Proofs.Ytokbgbbkopmngab
/- A place: doWithin. -/
namespace Go.Proofs.Ytokbgbbkopmngab
open Go.RowKit Go.Deep

/-- doWithin's two boxes. -/
structure Dua (w : World) (ds : Array Value) (W : World) : Prop where
  low : Below w.heap.size w W
  r : Box W w.heap.size 38 ds
  z : Box W (w.heap.size + 1) 38 (stepC zSp none 0 0)
theorem Dua.new (w : World) (ds : Array Value) : Dua w ds ((w.alloc (.cells ds 38)).alloc (.cells (stepC zSp none 0 0) 38)) :=
  ⟨(alloc_below0 w _).alloc (by simp) _, (Box.new w 38 ds).over _, box_new (by rw [World.size_alloc]) 38 _⟩
theorem stepT_none {S : Sg} {t : Tn} {ps : List Int} {p : Sp} (h : subT ps t = none) : stepT S t ps p = none := by unfold stepT; rw [h]
theorem sub_none_of {ps qs : List Int} {t : Tn} (h : subT ps t = none) : subT (ps ++ qs) t = none := by rw [sub_append, h]; rfl
theorem sub_stop {ps : List Int} {j : Nat} {t0 t : Tn} {x : Int} (hj : j < ps.length) (hx : ps[j] = x) (h : subT (ps.take j) t0 = some t) (hk : kidT x t.2 = none) : subT ps t0 = none := by
  have e : ps = (ps.take j ++ [x]) ++ ps.drop (j + 1) := by
    rw [List.append_assoc, ← hx]
    conv => lhs; rw [← List.take_append_drop j ps, List.drop_eq_getElem_cons hj]
    rfl
  rw [e]
  refine sub_none_of ?_
  rw [sub_snoc _ x t0 t h, hk]
theorem take_more {ps : List Int} {j : Nat} {x : Int} (hj : j < ps.length) (hx : ps[j] = x) : ps.take (j + 1) = ps.take j ++ [x] := by rw [List.take_succ_eq_append_getElem hj, hx]
/-- From the node's end to the term's. -/
theorem Foc.fin {w : World} {b0 o0 : Nat} {A0 : Bl} {cur0 : Array Value} {t0 : Tn} {ps : List Int} {b o : Nat} {A : Bl} {t : Tn} {a : Option Addr} {c : Nat} {ks : List Kv} {cur : Array Value} (h : Foc w b0 o0 A0 cur0 t0 ps b o A t a c ks cur) {w1 w' : World} {S : Sg} {p : Sp} {e : Ending} (hb : Below w.heap.size w w1) (hE : DeedEnd w1 b o A cur (stepN S t p) e w') : DeedEnd w1 b0 o0 A0 cur0 (stepT S t0 ps p) e w' := by
  have hs : stepT S t0 ps p = (match stepN S t p with | none => none | some r => (putT r.1 ps t0).map fun y => (y, r.2)) := by unfold stepT; rw [h.sub]; rfl
  rw [hs]
  cases hn : stepN S t p with
  | none => rw [hn] at hE; exact hE
  | some r =>
    rw [hn] at hE
    obtain ⟨he, A', a', c', ks', hk, hU⟩ := hE
    obtain ⟨y, A0', a0, c0, ks0, e1, e2, e3⟩ := h.back w1 w' r.1 A' a' c' ks' hb hk hU
    simp only [e1, Option.map_some]
    exact ⟨he, A0', a0, c0, ks0, e2, e3⟩

set_option maxRecDepth 100000 in
set_option maxHeartbeats 4000000 in
theorem within_any (S : Option Addr) (n cap b0 o0 : Nat) (L : List Sym) (A0 : Bl) (t0 : Tn) (a0 : Option Addr) (c0 : Nat) (ks0 : List Kv) (cur0 : Array Value) (p : Sp) (ps : List Int) (pa : Option Addr) (pn pc : Nat) (w : World)
    (hS : SigAt w S n L) (hP : Pl w b0 o0 A0 t0.1 a0 c0 ks0 cur0) (hks : ks0.map Kv.tn = kidsL t0.2) (hn : nodesF t0.2 ≤ 1048576) (hI : IntsAt w pa pn ps) (hpn : pn ≤ 9223372036854775807) :
    Calls Try.prog 15 #[.slice S n cap, .pointer (some ⟨b0, o0, none⟩), stepV p pa pn pc] w (DeedEnd w b0 o0 A0 cur0 (stepT (sgOf L) t0 ps p)) := by
  obtain ⟨W0, hW0⟩ : ∃ W0, (w.alloc (.cells (stepC p pa pn pc) 38)).alloc (.cells (stepC zSp none 0 0) 38) = W0 := ⟨_, rfl⟩
  have hD : Dua w (stepC p pa pn pc) W0 := by rw [← hW0]; exact Dua.new _ _
  have hsz : W0.heap.size = w.heap.size + 2 := by rw [← hW0]; simp
  have hP0 := hP.within.below hD.low
  have hF0 : Foc W0 b0 o0 (fun q => A0 q ∧ q < w.heap.size) cur0 t0 [] b0 o0 (fun q => A0 q ∧ q < w.heap.size) t0 a0 c0 ks0 cur0 := Foc.start hP0 hks (fun q hq => by have := hq.2; omega)
  have hI0 := hI.below hD.low
  obtain rfl := hI.len
  obtain ⟨r, hr⟩ : ∃ r, stepT (sgOf L) t0 ps p = r := ⟨_, rfl⟩
  rw [hr]
  have r1 := hD.r.v (k := 1) rfl
  have z0 := hD.z.v (k := 0) rfl; have z1 := hD.z.v (k := 1) rfl; have z2 := hD.z.v (k := 2) rfl; have z3 := hD.z.v (k := 3) rfl; have z4 := hD.z.v (k := 4) rfl
  have f0 := hD.z.f 0; have f1 := hD.z.f 1; have f2 := hD.z.f 2; have f3 := hD.z.f 3; have f4 := hD.z.f 4
  have HD := hid hD; have HSZ := hid hsz; have HI := hid hI0; have HF0 := hid hF0; have HR := hid hr
  have HS : Hid (SigAt W0 S n L) := hS.below hD.low
  have HBL : Hid (b0 < w.heap.size) := hP.lt
  have HN := hid hn
  clear hD hP0 hF0 hI0 hI hsz hr hS hP hks hn
  go_enter Try.func15, Try.ntmps15
  go_wp2_with fail
  go_loopw [1, 9, 13] (fun pt _ ix wr => ∃ (j b o : Nat) (A : Bl) (t : Tn) (a : Option Addr) (c : Nat) (ks : List Kv) (cur : Array Value), j ≤ ps.length ∧ ix = .int .i64 j ∧ pt = .pointer (some ⟨b, o, none⟩) ∧ wr = W0 ∧ Foc W0 b0 o0 (fun q => A0 q ∧ q < w.heap.size) cur0 t0 (ps.take j) b o A t a c ks cur) (fun _ _ ix _ => ps.length - (intOf ix).toNat)
  case atStart => exact ⟨0, b0, o0, _, t0, a0, c0, ks0, cur0, Nat.zero_le _, rfl, rfl, rfl, HF0.out⟩
  case round =>
    obtain ⟨j, b, o, A, t, a, c, ks, cur, hj, rfl, rfl, rfl, hF⟩ := hrel
    have HF := hid hF
    by_cases hlt : j < ps.length
    · obtain ⟨pb, po, rfl, hpc⟩ := HI.out.cells j hlt
      have nn := hF.at_.nd
      have n2 := nn.list
      have hj0 : (0 : Int) ≤ (j : Int) := by omega
      have hjn : (j : Int) < (ps.length : Int) := by omega
      have hkl := kv_len hF.kids
      have hcl := hF.at_.row.len
      have hcl2 := hcl.2
      unfold maxLen at hcl2
      obtain ⟨x, hx⟩ : ∃ x, ps[j] = x := ⟨_, rfl⟩
      rw [hx] at hpc
      have HX := hid hx
      have HKL := hid hkl
      clear hF nn hx hkl hcl
      have HLT := hid hlt
      by_cases hx0 : x < 0
      · go_wp2_with fail
        refine ret_step rfl rfl (sets5_box HD.out.z _ _ _ _ _) rfl rfl ?_
        exact DeedEnd.not (by rw [← HR.out]; exact stepT_none (sub_stop HLT.out HX.out HF.out.sub (kidT_bad (by have := HKL.out; omega)))) (sets5_below HD.out.low (by omega) _ _ _ _ _)
      · by_cases hx1 : x < (ks.length : Int)
        · obtain ⟨i, rfl⟩ : ∃ i : Nat, x = i := ⟨x.toNat, by omega⟩
          obtain ⟨g, rfl⟩ : ∃ g, a = some ⟨g, 0, none⟩ := by
            rcases HF.out.at_.row.row with ⟨rfl, _⟩ | ⟨g, h1, _⟩
            · simp at hx1; omega
            · exact ⟨g, h1⟩
          obtain ⟨y, hy⟩ : ∃ y, ks[i]? = some y := ⟨_, List.getElem?_eq_getElem (by omega)⟩
          have hd := HF.out.down hy
          have HDn := hid hd
          have hx2 : ¬ (ks.length : Int) ≤ (i : Int) := by omega
          have hi0 : (0 : Int) ≤ (i : Int) := by omega
          clear hd hy
          go_wp2_with fail
          go_roundw
          case rel =>
            obtain ⟨A1, cu, vs, hf⟩ := HDn.out
            rw [← take_more HLT.out HX.out] at hf
            exact ⟨j + 1, g, i * 3, A1, y.tn, y.a, y.c, vs, cu, by omega, by go_num, by first | rfl | trivial, by first | rfl | trivial, hf⟩
          case measure => simp [intOf]; omega
        · have hx2 : (ks.length : Int) ≤ x := by omega
          go_wp2_with fail
          refine ret_step rfl rfl (sets5_box HD.out.z _ _ _ _ _) rfl rfl ?_
          exact DeedEnd.not (by rw [← HR.out]; exact stepT_none (sub_stop HLT.out HX.out HF.out.sub (kidT_bad (by have := HKL.out; omega)))) (sets5_below HD.out.low (by omega) _ _ _ _ _)
    · have hjn : ¬ (j : Int) < (ps.length : Int) := by omega
      have hjl : ps.take j = ps := List.take_of_length_le (by omega)
      rw [hjl] at HF
      have hPA : Hid (Calls Try.prog 21 #[.slice S n cap, .pointer (some ⟨b, o, none⟩)] wr.drew fun e w2 => e = .returned (placeV S n cap b o (unitI L t.1.2) (unitOk L t.1.2)) ∧ (w2.cell? ⟨w.heap.size, 0, none⟩ = some (.int .i64 p.kind) ∧ w2.cell? ⟨w.heap.size, 1, none⟩ = some (.slice pa ps.length pc) ∧ w2.cell? ⟨w.heap.size, 2, none⟩ = some (.int .i64 p.at_) ∧ w2.cell? ⟨w.heap.size, 3, none⟩ = some (.int .i64 p.many) ∧ w2.cell? ⟨w.heap.size, 4, none⟩ = some (.int .i64 p.sym)) ∧ Hid (Calls Try.prog 22 #[placeV S n cap b o (unitI L t.1.2) (unitOk L t.1.2), stepV p pa ps.length pc] w2 fun e w3 => e = .returned (.tuple #[stepV (ansSp r) none 0 0, .bool (ansOk r)]) ∧ Hid (Box w3 (w.heap.size + 1) 38 (stepC zSp none 0 0)) ∧ Hid (∀ w4 : World, Below 0 w3 w4 → (∀ q, q ≠ w.heap.size + 1 → w4.heap[q]? = w3.heap[q]?) → DeedEnd w b0 o0 A0 cur0 r (.returned (.tuple #[stepV (ansSp r) none 0 0, .bool (ansOk r)])) w4))) := by
        have hSd : SigAt wr.drew S n L := HS.out.below (Below.refl _ wr).drew
        refine Calls.mono (placeAt_any S n cap b o L t.1 a ks.length c wr.drew hSd (HF.out.at_.nd.below (Below.refl _ wr).drew)) ?_
        rintro e w2 ⟨he, hb2⟩
        have hb2' : Below wr.heap.size wr w2 := (Below.refl _ wr).drew.trans hb2
        have hr2 := HD.out.r.below hb2'
        have hz2 := HD.out.z.below hb2'
        have hsz0 := HSZ.out
        have hbw2 : Below w.heap.size w w2 := HD.out.low.trans (hb2'.mono (by omega))
        have hs2 := hb2'.size
        refine ⟨he, ⟨hr2.v rfl, hr2.v rfl, hr2.v rfl, hr2.v rfl, hr2.v rfl⟩, ?_⟩
        refine Calls.mono (do_any S n cap b o L A t a c ks cur p pa ps.length pc w2 (HS.out.below hb2') (HF.out.at_.below hb2') HF.out.kids (Nat.le_trans HF.out.nodes HN.out)) ?_
        intro e w3 hE
        have hE2 := HF.out.fin hb2' hE
        rw [HR.out] at hE2
        have hL := hE2.lift hbw2 (B := w.heap.size + 1) (by omega) (by omega) HBL.out
        exact ⟨hE2.ret, hL.1.trans hz2, hL.2⟩
      have r0 := HD.out.r.v (k := 0) rfl; have r2 := HD.out.r.v (k := 2) rfl; have r3 := HD.out.r.v (k := 3) rfl; have r4 := HD.out.r.v (k := 4) rfl
      clear hF z0 z1 z2 z3 z4 f0 f1 f2 f3 f4
      go_wp2_with fail
      go_region_with (first | (go_at_call 21; refine hPA.out.mono ?_; rintro e w2 ⟨rfl, ⟨g0, g1, g2, g3, g4⟩, HDD⟩) | (go_at_call 22; refine HDD.out.mono ?_; rintro e w3 ⟨rfl, HZ3, HE3⟩; have z0 := HZ3.out.v (k := 0) rfl; have z1 := HZ3.out.v (k := 1) rfl; have z2 := HZ3.out.v (k := 2) rfl; have z3 := HZ3.out.v (k := 3) rfl; have z4 := HZ3.out.v (k := 4) rfl; have f0 := HZ3.out.f 0; have f1 := HZ3.out.f 1; have f2 := HZ3.out.f 2; have f3 := HZ3.out.f 3; have f4 := HZ3.out.f 4) | fail)
      all_goals
        go_wp2
        refine ret_step rfl rfl (sets5_box HZ3.out _ _ _ _ _) rfl rfl ?_
        exact HE3.out _ (sets5_below (Below.refl 0 w3) (Nat.zero_le _) _ _ _ _ _) (fun q hq => sets5_far hq _ _ _ _ _)
end Go.Proofs.Ytokbgbbkopmngab
/- What Clone of package terms makes: the term in new memory, each list's block as great as its room. -/
namespace Go.Proofs.Ytokbgbbkopmngab
open Go.RowKit Go.Deep

def CloneFOk (k : Nat) : Prop := ∀ (x : ByteArray × Int) (l : Fo) (a : Option Addr) (c : Nat) (w : World), nodesF l ≤ k → TmAt w x a c l →
  Calls Try.prog 14 #[.agg #[.string x.1, .int .i64 x.2, .slice a (lenF l) c]] w fun e w' => ∃ a' c', e = .returned (.agg #[.string x.1, .int .i64 x.2, .slice a' (lenF l) c']) ∧ FulTm w' (fun k => w.heap.size ≤ k) x a' c' l ∧ Below w.heap.size w w' ∧ (lenF l = 0 → a' = none ∧ c' = 0)

/-- A fresh row, some of whose places are filled. -/
structure FillF (w : World) (n : Nat) (W : World) (ks : List Kv) : Prop where
  low : Below w.heap.size w W
  row : ∃ cur, W.heap[w.heap.size]? = some (Obj.cells cur 26 (0, 0)) ∧ cur.size = n * 3 ∧ ∀ (i : Nat) (u : Value), (kvCells ks)[i]? = some u → cur[i]? = some u
  own : GL FulE W ks (fun q => w.heap.size < q ∧ q < W.heap.size)
theorem FillF.cell {w : World} {n : Nat} {W : World} {ks : List Kv} (h : FillF w n W ks) {i : Nat} (hi : i < n * 3) : ∃ v, W.cell? ⟨w.heap.size, i, none⟩ = some v := by
  obtain ⟨cur, h1, h2, _⟩ := h.row
  exact ⟨cur[i]'(by omega), by rw [cell_of_row W w.heap.size i cur 26 (0, 0) h1]; simp [show i < cur.size by omega]⟩
theorem FillF.frozen {w : World} {n : Nat} {W : World} {ks : List Kv} (h : FillF w n W ks) (i : Nat) : W.frozen? ⟨w.heap.size, i, none⟩ = false := by
  obtain ⟨cur, h1, _⟩ := h.row
  simp [World.frozen?, h1]
/-- What the callee has made is stored at its place. -/
theorem FillF.step {w wr w1 : World} {n : Nat} {ks : List Kv} {kv : Kv} (h : FillF w n wr ks) (hb : Below wr.heap.size wr w1) (hk : FulTm w1 (fun q => wr.heap.size ≤ q) kv.x kv.a kv.c kv.l) (hlt : ks.length < n) :
    FillF w n (((w1.setCell ⟨w.heap.size, ks.length * 3, none⟩ (.string kv.x.1)).setCell ⟨w.heap.size, ks.length * 3 + 1, none⟩ (.int .i64 kv.x.2)).setCell ⟨w.heap.size, ks.length * 3 + 2, none⟩ (.slice kv.a (lenF kv.l) kv.c)) (ks ++ [kv]) := by
  obtain ⟨cur, h1, h2, h3⟩ := h.row
  have hglt : w.heap.size < wr.heap.size := (Array.getElem?_eq_some_iff.1 h1).1
  have h1' : w1.heap[w.heap.size]? = some (Obj.cells cur 26 (0, 0)) := (hb.block _ hglt).trans h1
  have far : ∀ q, w.heap.size < q → (((w1.setCell ⟨w.heap.size, ks.length * 3, none⟩ (.string kv.x.1)).setCell ⟨w.heap.size, ks.length * 3 + 1, none⟩ (.int .i64 kv.x.2)).setCell ⟨w.heap.size, ks.length * 3 + 2, none⟩ (.slice kv.a (lenF kv.l) kv.c)).heap[q]? = w1.heap[q]? := fun q hq => by
    rw [Below.heap_setCell _ _ _ q (by show q ≠ w.heap.size; omega), Below.heap_setCell _ _ _ q (by show q ≠ w.heap.size; omega), Below.heap_setCell _ _ _ q (by show q ≠ w.heap.size; omega)]
  refine ⟨?_, ⟨_, block_set (block_set (block_set h1' _) _) _, by simp [h2], ?_⟩, ?_⟩
  · exact (((h.low.trans (hb.mono h.low.size)).setCell (p := ⟨w.heap.size, ks.length * 3, none⟩) (Nat.le_refl _) _).setCell (p := ⟨w.heap.size, ks.length * 3 + 1, none⟩) (Nat.le_refl _) _).setCell (p := ⟨w.heap.size, ks.length * 3 + 2, none⟩) (Nat.le_refl _) _
  · intro i u hu
    rw [kvCells_snoc] at hu
    have hl := kvCells_len ks
    have hkl : kv.cells.length = 3 := rfl
    have hi : i < ks.length * 3 + 3 := by
      rcases Nat.lt_or_ge i (ks.length * 3 + 3) with h' | h'
      · exact h'
      · rw [List.getElem?_eq_none (by rw [List.length_append]; omega)] at hu; cases hu
    simp only [Array.getElem?_setIfInBounds, Array.size_setIfInBounds]
    by_cases hc : i < ks.length * 3
    · rw [List.getElem?_append_left (by omega)] at hu
      rw [if_neg (by omega), if_neg (by omega), if_neg (by omega)]
      exact h3 i u hu
    · rw [List.getElem?_append_right (by omega), hl] at hu
      have hcase : i = ks.length * 3 ∨ i = ks.length * 3 + 1 ∨ i = ks.length * 3 + 2 := by omega
      rcases hcase with e | e | e
      · subst e
        rw [if_neg (by omega), if_neg (by omega), if_pos rfl, if_pos (by omega)]
        simpa [Kv.cells] using hu
      · subst e
        rw [if_neg (by omega), if_pos rfl, if_pos (by omega)]
        rw [show ks.length * 3 + 1 - ks.length * 3 = 1 by omega] at hu
        simpa [Kv.cells] using hu
      · subst e
        rw [if_pos rfl, if_pos (by omega)]
        rw [show ks.length * 3 + 2 - ks.length * 3 = 2 by omega] at hu
        simpa [Kv.cells] using hu
  · have h5 : GL FulE w1 ks (fun q => w.heap.size < q ∧ q < wr.heap.size) := h.own.keep fulE (fun q hq hlt => hb.block q hlt)
    have h6 := GL.snoc h5 (fulE.within (k := kv) hk) (fun q hq => by intro h'; have := hq.2; have := h'.1; omega)
    have hsz : (((w1.setCell ⟨w.heap.size, ks.length * 3, none⟩ (.string kv.x.1)).setCell ⟨w.heap.size, ks.length * 3 + 1, none⟩ (.int .i64 kv.x.2)).setCell ⟨w.heap.size, ks.length * 3 + 2, none⟩ (.slice kv.a (lenF kv.l) kv.c)).heap.size = w1.heap.size := by simp
    rw [hsz]
    have hbs := hb.size
    refine (h6.keep fulE (fun q hq _ => far q ?_)).mono (fun q hq => ?_)
    · rcases hq with hq | hq
      · exact hq.1
      · have := hq.1; omega
    · rcases hq with hq | hq
      · exact ⟨hq.1, by omega⟩
      · exact ⟨by have := hq.1; omega, hq.2⟩
theorem FillF.done {w W : World} {x : ByteArray × Int} {l : Fo} {ks : List Kv} (h : FillF w (lenF l) W ks) (hks : ks.map Kv.tn = kidsL l) (hx : x.1.size ≤ maxLen) (hn : lenF l ≤ maxLen) (hf : lenF l * 48 ≤ 140737488351232) :
    FulTm W (fun q => w.heap.size ≤ q) x (some ⟨w.heap.size, 0, none⟩) (lenF l) l := by
  obtain ⟨cur, h1, h2, h3⟩ := h.row
  refine ⟨⟨hx, Nat.le_refl _, hn, hf⟩, .inr ⟨w.heap.size, cur, rfl, Nat.le_refl _, h1, h2, ?_⟩⟩
  refine fulKids_of l ks _ 0 hks (fun j u hu => ?_) (h.own.mono (fun q hq => ⟨by have := hq.1; omega, by have := hq.1; omega⟩))
  rw [Nat.zero_add, cell_of_row W w.heap.size j cur 26 (0, 0) h1]
  exact h3 j u hu

set_option maxRecDepth 100000 in
set_option maxHeartbeats 2000000 in
theorem cloneListF_any (k : Nat) (ih : ∀ j, j < k → CloneFOk j) (x : ByteArray × Int) (l : Fo) (a : Option Addr) (c : Nat) (w : World) (hk : nodesF l ≤ k) (hT : TmAt w x a c l) :
    Calls Try.prog 20 #[.slice a (lenF l) c] w fun e w' => ∃ a' c', e = .returned (.slice a' (lenF l) c') ∧ FulTm w' (fun k => w.heap.size ≤ k) x a' c' l ∧ Below w.heap.size w w' ∧ (lenF l = 0 → a' = none ∧ c' = 0) := by
  obtain ⟨i0, hi, hz0, hz1, hz2⟩ := info_parts Try.info26
  have HT : Hid (TmAt w x a c l) := hT
  have IH : Hid (∀ j, j < k → CloneFOk j) := ih
  have hmax : maxLen = 9223372036854775807 := rfl
  have hn1 := hT.sizes.len
  have hn2 := hT.sizes.cap
  have hfew := hT.sizes.few
  clear hT ih
  by_cases h0 : lenF l = 0
  · have hl := len_nil h0
    subst hl
    go_enter Try.func20, Try.ntmps20
    go_wp2
    go_ret
    exact ⟨none, 0, rfl, ⟨⟨HT.out.sizes.name, by simp [lenF], by simp, by simp [lenF]⟩, .inl ⟨rfl, rfl, rfl⟩⟩, Below.refl _ _, fun _ => ⟨rfl, rfl⟩⟩
  · obtain ⟨bb, oo, rfl, hkk⟩ := HT.out.args.get (by omega)
    have HKK : Hid (KidsAt w l bb oo) := hkk
    clear hkk
    have hne : ((lenF l : Int) == 0) = false := by simp; omega
    go_enter Try.func20, Try.ntmps20
    go_wp2_with (at_make; refine wpList_make_full _ rfl _ _ 24 rfl w.heap.size 26 i0 (.agg #[.string ⟨#[]⟩, .int .i64 0, .slice none 0 0]) 3 Try.underlying24 hi hz0 hz1 .i64 .i64 _ _ (lenF l) rfl rfl rfl rfl (by rw [hz2]; omega) (by omega) (Nat.le_refl _) ?_; intro w0 hown0 hgrow0)
    have F0 : FillF w (lenF l) w0 [] := by
      refine ⟨(Below.refl _ _).grown hgrow0 (Nat.le_refl _) (fun k e => by cases e), ?_, trivial⟩
      rcases hown0.2 with ⟨hv, _⟩ | ⟨g', cap', cur, hv, _, hh, _, _, hcs, _⟩
      · cases hv
      · cases hv
        exact ⟨cur, hh, hcs, fun i u hu => by simp [kvCells] at hu⟩
    clear hown0 hgrow0
    go_loopw [4, 5, 14] (fun _ _ i wr => ∃ (j : Nat) (ks : List Kv), j ≤ lenF l ∧ i = .int .i64 j ∧ ks.length = j ∧ FillF w (lenF l) wr ks ∧ ks.map Kv.tn = (kidsL l).take j) (fun _ _ i _ => lenF l - (intOf i).toNat)
    case atStart => exact ⟨0, [], Nat.zero_le _, rfl, rfl, F0, by simp⟩
    case round =>
      obtain ⟨j, ks, hj, rfl, hkl, hF, hks⟩ := hrel
      have FR : Hid (FillF w (lenF l) wr ks) := hF
      have HKS : Hid (ks.map Kv.tn = (kidsL l).take j) := hks
      clear hks F0
      by_cases hlt : j < lenF l
      · obtain ⟨y, a1, c1, l1, kd⟩ := HKK.out.kid (k := j) hlt
        have kd' := kd.below hF.low
        have p0 := kd'.name; have p1 := kd'.sym; have p2 := kd'.list
        have hb1 : Below wr.heap.size wr (wr.alloc (.cells #[.string y.1, .int .i64 y.2, .slice a1 (lenF l1) c1] 26)) := (Below.refl _ _).alloc (Nat.le_refl _) _
        have hC := IH.out (nodesF l1) (by have := kd.less; omega) y l1 a1 c1 _ (Nat.le_refl _) (kd'.at_.below hb1)
        have KD : Hid (Kid w l bb oo j y a1 c1 l1) := kd
        have HB1 : Hid (Below wr.heap.size wr (wr.alloc (.cells #[.string y.1, .int .i64 y.2, .slice a1 (lenF l1) c1] 26))) := hb1
        have hgl : w.heap.size < wr.heap.size := by obtain ⟨cur, h1, _⟩ := hF.row; exact (Array.getElem?_eq_some_iff.1 h1).1
        clear kd kd' hb1 hF
        go_wp2_with fail
        refine hC.mono ?_
        rintro e w2 ⟨a', c', rfl, ho2, hb2, hz2⟩
        clear hz2
        have HW2 : Hid (Below wr.heap.size wr w2) := HB1.out.trans (hb2.mono HB1.out.size)
        have HO2 : Hid (FulTm w2 (fun q => wr.heap.size ≤ q) y a' c' l1) := ho2.mono (fun q hq => by have := HB1.out.size; simp at hq; omega)
        have F2 : FillF w (lenF l) w2 ks := by
          obtain ⟨cur, h1, h2, h3⟩ := FR.out.row
          exact ⟨FR.out.low.trans (HW2.out.mono FR.out.low.size), ⟨cur, (HW2.out.block _ hgl).trans h1, h2, h3⟩, (FR.out.own.keep fulE (fun q hq hlt => HW2.out.block q hlt)).mono (fun q hq => ⟨hq.1, Nat.lt_of_lt_of_le hq.2 HW2.out.size⟩)⟩
        obtain ⟨u0, v0⟩ := F2.cell (i := j * 3) (by omega)
        obtain ⟨u1, v1⟩ := F2.cell (i := j * 3 + 1) (by omega)
        obtain ⟨u2, v2⟩ := F2.cell (i := j * 3 + 2) (by omega)
        have f0 := F2.frozen (j * 3)
        have f1 := F2.frozen (j * 3 + 1)
        have f2 := F2.frozen (j * 3 + 2)
        clear hC ho2 hb2 F2 p0 p1 p2
        go_wp2
        go_roundw
        case rel =>
          obtain ⟨B1, O1, sp⟩ := KD.out.split
          have hst := FR.out.step (kv := ⟨y, l1, a', c'⟩) HW2.out HO2.out (by omega)
          rw [hkl] at hst
          exact ⟨j + 1, ks ++ [⟨y, l1, a', c'⟩], by omega, by go_num, by simp [hkl], hst, by rw [kids_take sp, ← HKS.out]; simp [Kv.tn]⟩
        case measure => simp [intOf]; omega
      · have e1 : j = lenF l := by omega
        go_wp2
        go_ret
        refine ⟨_, lenF l, rfl, FR.out.done (by rw [HKS.out, e1, ← kids_len, List.take_length]) HT.out.sizes.name (by omega) hfew, FR.out.low, fun e => absurd e h0⟩

set_option maxRecDepth 100000 in
set_option maxHeartbeats 2000000 in
theorem cloneF_all : ∀ k, CloneFOk k := by
  intro k
  induction k using Nat.strongRecOn with
  | _ k ih =>
    intro x l a c w hk hT
    have HT : Hid (TmAt w x a c l) := hT
    obtain ⟨W0, hW0⟩ : ∃ W0, (w.alloc (.cells #[.string x.1, .int .i64 x.2, .slice a (lenF l) c] 26)).alloc (.cells #[.string ⟨#[]⟩, .int .i64 0, .slice none 0 0] 26) = W0 := ⟨_, rfl⟩
    have hb0 : Below w.heap.size w W0 := by rw [← hW0]; exact ((Below.refl _ w).alloc (Nat.le_refl _) _).alloc (by simp) _
    have b1 : XBox W0 w.heap.size x (.slice a (lenF l) c) := by rw [← hW0]; exact (Below.heap_alloc _ _ _ (by simp)).trans (World.alloc_heap_new w _)
    have b2 : XBox W0 (w.heap.size + 1) (⟨#[]⟩, 0) (.slice none 0 0) := by
      have := World.alloc_heap_new (w.alloc (.cells #[.string x.1, .int .i64 x.2, .slice a (lenF l) c] 26)) (.cells #[.string ⟨#[]⟩, .int .i64 0, .slice none 0 0] 26)
      rw [World.size_alloc] at this
      rw [← hW0]; exact this
    have hsz : W0.heap.size = w.heap.size + 2 := by rw [← hW0]; simp
    have hC := cloneListF_any k ih x l a c W0 hk (hT.below hb0)
    clear hT ih
    have z2 := b1.c2
    go_enter Try.func14, Try.ntmps14
    go_wp2_with fail
    clear hW0 z2
    refine hC.mono ?_
    rintro e w2 ⟨a', c', rfl, ho2, hb2, hzz⟩
    have HZ : Hid (lenF l = 0 → a' = none ∧ c' = 0) := hzz
    clear hzz
    have B1 : XBox w2 w.heap.size x (.slice a (lenF l) c) := b1.below hb2
    have B2 : XBox w2 (w.heap.size + 1) (⟨#[]⟩, 0) (.slice none 0 0) := b2.below hb2
    have c2 := B1.c2
    have f2 := B1.f (k := 2)
    have X1 := B1.set (.slice a' (lenF l) c')
    have x0 := X1.c0; have x1 := X1.c1; have x2 := X1.c2
    have R1 := B2.other (p := ⟨w.heap.size, 2, none⟩) (by show w.heap.size + 1 ≠ w.heap.size; omega) (.slice a' (lenF l) c')
    have r0 := R1.c0; have r1 := R1.c1; have r2 := R1.c2
    have g0 := R1.f (k := 0); have g1 := R1.f (k := 1); have g2 := R1.f (k := 2)
    have HR1 : Hid (XBox (w2.setCell ⟨w.heap.size, 2, none⟩ (.slice a' (lenF l) c')) (w.heap.size + 1) (⟨#[]⟩, 0) (.slice none 0 0)) := R1
    have HO2 : Hid (FulTm w2 (fun k => W0.heap.size ≤ k) x a' c' l) := ho2
    have HB2 : Hid (Below w.heap.size w w2) := hb0.trans (hb2.mono hb0.size)
    have HSZ : Hid (W0.heap.size = w.heap.size + 2) := hsz
    clear hC ho2 hb2 B1 B2 b1 b2 X1 R1 hb0 hsz
    go_wp2
    refine bodyPost_ret (results_cell_row rfl _ _ (w.heap.size + 1) 26 #[.string x.1, .int .i64 x.2, .slice a' (lenF l) c'] (0, 0) _ rfl (HR1.out.all (x := x) _) Try.underlying26 rfl Try.size26) rfl ?_
    refine ⟨a', c', rfl, ?_, ?_, HZ.out⟩
    · refine (HO2.out.keep (fun q hq _ => ?_)).mono (fun q hq => by have := HSZ.out; omega)
      have := HSZ.out
      exact (sets_far (by omega) _ _ _).trans (Below.heap_setCell w2 _ _ q (by show q ≠ w.heap.size; omega))
    · exact sets_below (HB2.out.setCell (p := ⟨w.heap.size, 2, none⟩) (Nat.le_refl _) _) (by omega) _ _ _

theorem cloneF_any (x : ByteArray × Int) (l : Fo) (a : Option Addr) (c : Nat) (w : World) (hT : TmAt w x a c l) :
    Calls Try.prog 14 #[.agg #[.string x.1, .int .i64 x.2, .slice a (lenF l) c]] w fun e w' => ∃ a' c', e = .returned (.agg #[.string x.1, .int .i64 x.2, .slice a' (lenF l) c']) ∧ FulTm w' (fun k => w.heap.size ≤ k) x a' c' l ∧ Below w.heap.size w w' ∧ (lenF l = 0 → a' = none ∧ c' = 0) :=
  cloneF_all _ x l a c w (Nat.le_refl _) hT
end Go.Proofs.Ytokbgbbkopmngab
/- Do. -/
namespace Go.Proofs.Ytokbgbbkopmngab
open Go.RowKit Go.Deep

def ansN (r : Option (Tn × Sp)) : Tn := match r with | none => ((⟨#[]⟩, 0), .nil) | some r => r.1
def ansC (r : Option (Tn × Sp)) : Int := match r with | none => 81 | some _ => 0
/-- A step and what it leaves behind: a term of one's own. -/
theorem pl_of_ful {w : World} {B : Nat} {A : Bl} {x : ByteArray × Int} {a : Option Addr} {c : Nat} {l : Fo} (hB : Box w B 26 #[.string x.1, .int .i64 x.2, .slice a (lenF l) c]) (hF : FulTm w A x a c l) (ho : ¬ A B) : ∃ ks, ks.map Kv.tn = kidsL l ∧ Pl w B 0 A x a c ks #[.string x.1, .int .i64 x.2, .slice a (lenF l) c] := by
  obtain ⟨ks, k1, k2⟩ := hF.open
  exact ⟨ks, k1, hB, rfl, rfl, by rw [kv_len k1]; rfl, k2, ho, hF.sizes.name⟩
/-- What Do makes of a term of its own, in its box. -/
def DoEnd (w : World) (r : Option (Tn × Sp)) (e : Ending) (w' : World) : Prop := ∃ a c, e = .returned (.tuple #[.agg #[.string (ansN r).1.1, .int .i64 (ansN r).1.2, .slice a (lenF (ansN r).2) c], .int .i64 (ansC r)]) ∧ FulTm w' (fun q => w.heap.size ≤ q) (ansN r).1 a c (ansN r).2 ∧ Below w.heap.size w w'
theorem sets3_box {W : World} {B : Nat} {y0 y1 y2 : Value} (h : Box W B 26 #[y0, y1, y2]) (x0 x1 x2 : Value) : Box (((W.setCell ⟨B, 0, none⟩ x0).setCell ⟨B, 1, none⟩ x1).setCell ⟨B, 2, none⟩ x2) B 26 #[x0, x1, x2] := block_set (k := 2) (block_set (k := 1) (block_set (k := 0) h x0) x1) x2
theorem sets3_fr {W : World} {B : Nat} (x0 x1 x2 : Value) : Fr (fun q => q = B) W (((W.setCell ⟨B, 0, none⟩ x0).setCell ⟨B, 1, none⟩ x1).setCell ⟨B, 2, none⟩ x2) := Fr.sets (A := fun q => q = B) rfl _ _ _ _ _ _
set_option maxRecDepth 100000 in
theorem ret_term {fn : Func} {R : Ending → World → Prop} {a : Act} {w : World} {p u B : Nat} {cs : Array Value} (h : fn.results = #[.cell p 26, .tmp u]) (hp : a.tmps.getD p undef = .pointer (some ⟨B, 0, none⟩))
    (hx : Box w B 26 cs) (hcs : cs.size = 3) (hd : a.defers = []) (hR : R (.returned (.tuple #[.agg cs, a.tmps.getD u undef])) w) : bodyPost Try.prog fn R .ret a w := by
  refine bodyPost_ret ?_ hd hR
  rw [results_cell_tmp h, hp]
  rw [show (asAddr (.pointer (some ⟨B, 0, none⟩))).run Try.prog w = .ok ⟨B, 0, none⟩ w from rfl]
  simp only [Result.andThen_ok, run_loadVar_row w B 26 26 _ (0, 0) _ hx Try.underlying26 rfl (by rw [Try.size26, hcs])]

set_option maxRecDepth 100000 in
set_option maxHeartbeats 4000000 in
theorem pdo_any (S : Option Addr) (n cap : Nat) (L : List Sym) (t : Tn) (a : Option Addr) (c : Nat) (p : Sp) (ps : List Int) (pa : Option Addr) (pn pc : Nat) (w : World)
    (hS : SigAt w S n L) (hT : TmAt w t.1 a c t.2) (hn : nodesF t.2 ≤ 1048576) (hI : IntsAt w pa pn ps) (hpn : pn ≤ 9223372036854775807) :
    Calls Try.prog 6 #[.slice S n cap, .agg #[.string t.1.1, .int .i64 t.1.2, .slice a (lenF t.2) c], stepV p pa pn pc] w (DoEnd w (stepT (sgOf L) t ps p)) := by
  obtain ⟨r, hr⟩ : ∃ r, stepT (sgOf L) t ps p = r := ⟨_, rfl⟩
  rw [hr]
  obtain ⟨W0, hW0⟩ : ∃ W0, ((w.alloc (.cells #[.string t.1.1, .int .i64 t.1.2, .slice a (lenF t.2) c] 26)).alloc (.cells (stepC p pa pn pc) 38)).alloc (.cells #[.string ⟨#[]⟩, .int .i64 0, .slice none 0 0] 26) = W0 := ⟨_, rfl⟩
  have hb0 : Below w.heap.size w W0 := by rw [← hW0]; exact ((alloc_below0 w _).alloc (by simp) _).alloc (by simp; omega) _
  have hsz : W0.heap.size = w.heap.size + 3 := by rw [← hW0]; simp
  have B0 : Box W0 w.heap.size 26 #[.string t.1.1, .int .i64 t.1.2, .slice a (lenF t.2) c] := by rw [← hW0]; exact ((Box.new w 26 _).over _).over _
  have B1 : Box W0 (w.heap.size + 1) 38 (stepC p pa pn pc) := by rw [← hW0]; exact (box_new (by rw [World.size_alloc]) 38 _).over _
  have B2 : Box W0 (w.heap.size + 2) 26 #[.string ⟨#[]⟩, .int .i64 0, .slice none 0 0] := by rw [← hW0]; exact box_new (by rw [World.size_alloc, World.size_alloc]) 26 _
  have hC := cloneF_any t.1 t.2 a c W0 (hT.below hb0)
  have d0 := B0.v (k := 0) rfl; have d1 := B0.v (k := 1) rfl; have d2 := B0.v (k := 2) rfl
  have HB0 := hid hb0; have HSZ := hid hsz; have HX0 := hid B0; have HX1 := hid B1; have HX2 := hid B2; have HS := hid hS; have HI := hid hI
  have HR := hid hr; have HN := hid hn
  clear hb0 hsz B0 B1 B2 hS hT hI hr hn
  go_enter Try.func6, Try.ntmps6
  go_wp2_with fail
  clear hW0
  refine hC.mono ?_
  rintro e w1 ⟨a', c', rfl, hF1, hb1, _⟩
  have hsz0 := HSZ.out
  have hs1 := hb1.size
  have X0 := HX0.out.below hb1; have X1 := HX1.out.below hb1; have X2 := HX2.out.below hb1
  have x0 := X0.v (k := 0) rfl; have x1 := X0.v (k := 1) rfl; have x2 := X0.v (k := 2) rfl
  have xf0 := X0.f 0; have xf1 := X0.f 1; have xf2 := X0.f 2
  obtain ⟨W1, hW1⟩ : ∃ W1, ((w1.setCell ⟨w.heap.size, 0, none⟩ (.string t.1.1)).setCell ⟨w.heap.size, 1, none⟩ (.int .i64 t.1.2)).setCell ⟨w.heap.size, 2, none⟩ (.slice a' (lenF t.2) c') = W1 := ⟨_, rfl⟩
  have hFr : Fr (fun q => q = w.heap.size) w1 W1 := by rw [← hW1]; exact sets3_fr _ _ _
  have hsW : W1.heap.size = w1.heap.size := by rw [← hW1]; simp
  have Y0 : Box W1 w.heap.size 26 #[.string t.1.1, .int .i64 t.1.2, .slice a' (lenF t.2) c'] := by rw [← hW1]; exact sets3_box X0 _ _ _
  have Y1 := X1.fr hFr (by omega); have Y2 := X2.fr hFr (by omega)
  have hF2 : FulTm W1 (fun q => W0.heap.size ≤ q) t.1 a' c' t.2 := hF1.keep (fun q hq hlt => hFr.same q hlt (by omega))
  have hbW : Below w.heap.size w W1 := ((HB0.out.trans (hb1.mono HB0.out.size))).trans (hFr.below (fun k hk => by omega) (by omega))
  obtain ⟨ks, hks, hPl⟩ := pl_of_ful Y0 hF2 (by omega)
  have hSW : SigAt W1 S n L := HS.out.below hbW
  have hIW : IntsAt W1 pa pn ps := HI.out.below hbW
  have hD := within_any S n cap w.heap.size 0 L (fun q => W0.heap.size ≤ q) t a' c' ks _ p ps pa pn pc W1 hSW hPl hks HN.out hIW hpn
  rw [HR.out] at hD
  have y0 := Y1.v (k := 0) rfl; have y1 := Y1.v (k := 1) rfl; have y2 := Y1.v (k := 2) rfl; have y3 := Y1.v (k := 3) rfl; have y4 := Y1.v (k := 4) rfl
  have hws : w.heap.size + 3 ≤ W1.heap.size ∧ W0.heap.size = w.heap.size + 3 := ⟨by omega, by omega⟩
  have HY2 := hid Y2; have HBW := hid hbW; have HD := hid hD; have HSW := hid hsW
  clear hC d0 d1 d2 hF1 hb1 X0 X1 X2 hFr Y0 Y1 Y2 hF2 hbW hPl hks hSW hIW hD hsW hsz0 hs1
  have HWS : Hid (w.heap.size + 3 ≤ W1.heap.size ∧ W0.heap.size = w.heap.size + 3) := hws
  cases r with
  | none =>
    have hD2 : Calls Try.prog 15 #[.slice S n cap, .pointer (some ⟨w.heap.size, 0, none⟩), stepV p pa pn pc] W1 fun e w2 => e = .returned (.tuple #[stepV zSp none 0 0, .bool false]) ∧ Hid (Box w2 (w.heap.size + 2) 26 #[.string ⟨#[]⟩, .int .i64 0, .slice none 0 0]) ∧ Hid (Below w.heap.size w w2) := by
      refine Calls.mono HD.out ?_
      rintro e w2 ⟨he, hb2⟩
      exact ⟨he, HY2.out.below hb2, HBW.out.trans (hb2.mono HBW.out.size)⟩
    have HD2 := hid hD2
    clear hD2 HD hws
    go_wp2_with (first | (go_at_call 15; refine HD2.out.mono ?_; rintro e w2 ⟨rfl, HZ, HB2⟩; have hbv := alloc_below0 w2 (.cells #[.int .i64 0, .slice none 0 0, .int .i64 0, .int .i64 0, .int .i64 0] 38); have Z := HZ.out.below hbv; have z0 := Z.v (k := 0) rfl; have z1 := Z.v (k := 1) rfl; have z2 := Z.v (k := 2) rfl; have f0 := Z.f 0; have f1 := Z.f 1; have f2 := Z.f 2; have HZV := hid Z; have HBV := hid (HB2.out.trans (hbv.mono HB2.out.size)); clear Z hbv) | fail)
    refine ret_term rfl rfl (sets3_box HZV.out _ _ _) rfl rfl ?_
    refine ⟨none, 0, rfl, ⟨⟨by show (0 : Nat) ≤ _; exact Nat.zero_le _, Nat.le_refl _, Nat.zero_le _, Nat.zero_le _⟩, .inl ⟨rfl, rfl, rfl⟩⟩, HBV.out.trans ((sets3_fr _ _ _).below (fun k hk => by omega) HBV.out.size)⟩
  | some r =>
    have hD2 : Calls Try.prog 15 #[.slice S n cap, .pointer (some ⟨w.heap.size, 0, none⟩), stepV p pa pn pc] W1 fun e w2 => e = .returned (.tuple #[stepV r.2 none 0 0, .bool true]) ∧ ∃ a2 c2, Hid (Box w2 w.heap.size 26 #[.string r.1.1.1, .int .i64 r.1.1.2, .slice a2 (lenF r.1.2) c2]) ∧ Hid (Box w2 (w.heap.size + 2) 26 #[.string ⟨#[]⟩, .int .i64 0, .slice none 0 0]) ∧ Hid (Below w.heap.size w w2) ∧ Hid (FulTm w2 (fun q => w.heap.size + 3 ≤ q) r.1.1 a2 c2 r.1.2) := by
      refine Calls.mono HD.out ?_
      rintro e w2 ⟨he, A', a2, c2, ks2, hk2, hU⟩
      obtain ⟨cur', z1, _, z3⟩ := hU.node
      have h3 : cur' = #[.string r.1.1.1, .int .i64 r.1.1.2, .slice a2 (lenF r.1.2) c2] := by
        have e0 := z3.c0; have e1 := z3.c1; have e2 := z3.c2
        rw [kv_len hk2] at e2
        apply Array.ext_getElem?
        intro k
        match k with
        | 0 => exact e0
        | 1 => exact e1
        | 2 => exact e2
        | k + 3 => rw [Array.getElem?_eq_none (by rw [z1]; simp), Array.getElem?_eq_none (by simp)]
      have hlow : ∀ q, q < w.heap.size + 3 → q ≠ w.heap.size → w2.heap[q]? = W1.heap[q]? := fun q hq hne => hU.same q (by omega) (fun h => by have h : W0.heap.size ≤ q := h; omega) hne
      refine ⟨he, a2, c2, by have := z3.blk; rw [h3] at this; exact this, (hlow _ (by omega) (by omega)).trans HY2.out, ⟨hU.low.os.trans HBW.out.os, hU.low.tape.trans HBW.out.tape, hU.low.output.trans HBW.out.output, Nat.le_trans HBW.out.size hU.low.size, fun q hq => (hlow q (by omega) (by omega)).trans (HBW.out.block q hq)⟩, ?_⟩
      refine (z3.row.tmL z3.nm hk2).mono (fun q hq => ?_)
      rcases hU.new q hq with h | h
      · have h : W0.heap.size ≤ q := h
        omega
      · omega
    have HD2 := hid hD2
    clear hD2 HD hws
    go_wp2_with (first | (go_at_call 15; refine HD2.out.mono ?_; rintro e w2 ⟨rfl, a2, c2, HX, HZ, HB2, HF⟩; obtain ⟨V, hV⟩ : ∃ V, w2.alloc (.cells (stepC r.2 none 0 0) 38) = V := ⟨_, rfl⟩; have hbv : Below w2.heap.size w2 V := (by rw [← hV]; exact alloc_below0 _ _); have Z := HZ.out.below hbv; have z0 := Z.v (k := 0) rfl; have z1 := Z.v (k := 1) rfl; have z2 := Z.v (k := 2) rfl; have f0 := Z.f 0; have f1 := Z.f 1; have f2 := Z.f 2; have X := HX.out.below hbv; have x0 := X.v (k := 0) rfl; have x1 := X.v (k := 1) rfl; have x2 := X.v (k := 2) rfl; have HZV := hid Z; have HBV := hid (HB2.out.trans (hbv.mono HB2.out.size)); have HFV := hid (HF.out.below hbv); clear Z X hbv) | fail)
    refine ret_term rfl rfl (sets3_box HZV.out _ _ _) rfl rfl ?_
    refine ⟨a2, c2, rfl, (HFV.out.keep (fun q hq hlt => (sets3_fr _ _ _).same q hlt (by omega))).mono (fun q hq => by omega), HBV.out.trans ((sets3_fr _ _ _).below (fun k hk => by omega) HBV.out.size)⟩
end Go.Proofs.Ytokbgbbkopmngab
/- The live question. -/
namespace Go.Proofs.Ytokbgbbkopmngab
open Go.RowKit Go.Deep

def bA : ByteArray := ⟨#[97]⟩
def bOne : ByteArray := ⟨#[111, 110, 101]⟩
def bF : ByteArray := ⟨#[102]⟩
def bPlus : ByteArray := ⟨#[112, 108, 117, 115]⟩
def bTimes : ByteArray := ⟨#[116, 105, 109, 101, 115]⟩
def bX : ByteArray := ⟨#[88]⟩
def someL : List Sym := [⟨bA, 1, 0, ⟨#[]⟩⟩, ⟨bOne, 1, 0, ⟨#[]⟩⟩, ⟨bF, 1, 2, ⟨#[]⟩⟩, ⟨bPlus, 2, 2, ⟨#[]⟩⟩, ⟨bTimes, 3, 2, bOne⟩]
set_option maxRecDepth 100000 in
theorem some_any (w : World) : Calls Try.prog 11 #[] w fun e w' => ∃ g, e = .returned (.slice (some ⟨g, 0, none⟩) 5 5) ∧ SigAt w' (some ⟨g, 0, none⟩) 5 someL ∧ Below w.heap.size w w' := by
  go_enter Try.func11, Try.ntmps11
  go_wp2
  go_ret
  refine ⟨w.heap.size, rfl, ⟨rfl, by decide, fun i hi => ⟨w.heap.size, 0, rfl, ?_⟩, ?_⟩, (Below.refl _ w).alloc (Nat.le_refl _) _⟩
  · have hb := Box.new w 57 #[.string bA, .int .i64 1, .int .i64 0, .string ⟨#[]⟩, .string bOne, .int .i64 1, .int .i64 0, .string ⟨#[]⟩, .string bF, .int .i64 1, .int .i64 2, .string ⟨#[]⟩, .string bPlus, .int .i64 2, .int .i64 2, .string ⟨#[]⟩, .string bTimes, .int .i64 3, .int .i64 2, .string bOne]
    have hi : i < 5 := hi
    match i, hi with
    | 0, _ => exact ⟨hb.c 0, hb.c 1, hb.c 2, hb.c 3⟩
    | 1, _ => exact ⟨hb.c 4, hb.c 5, hb.c 6, hb.c 7⟩
    | 2, _ => exact ⟨hb.c 8, hb.c 9, hb.c 10, hb.c 11⟩
    | 3, _ => exact ⟨hb.c 12, hb.c 13, hb.c 14, hb.c 15⟩
    | 4, _ => exact ⟨hb.c 16, hb.c 17, hb.c 18, hb.c 19⟩
  · intro x hx
    simp only [someL, List.mem_cons, List.not_mem_nil, or_false] at hx
    rcases hx with rfl | rfl | rfl | rfl | rfl <;> exact ⟨by decide, by decide⟩
def headF : Fo := .node 0 0 (⟨#[]⟩, 0) .nil (.node 0 0 (bX, 0) .nil .nil)
def headG : Fo := .node 0 0 (bX, 0) .nil (.node 0 0 (⟨#[]⟩, 0) .nil .nil)
set_option maxRecDepth 100000 in
theorem head_step : stepT (sgOf someL) ((⟨#[]⟩, 3), headF) [] ⟨3, 0, 0, 0⟩ = some (((⟨#[]⟩, 3), headG), ⟨3, 0, 0, 0⟩) := by kernel_rfl

theorem head_low {w w2 W3 w4 : World} (h1 : Below w.heap.size w w2) (h2 : Below w2.heap.size w2 W3) (h3 : Below W3.heap.size W3 w4) : Below w.heap.size w w4 := (h1.trans (h2.mono h1.size)).trans (h3.mono (Nat.le_trans h1.size h2.size))
theorem head_sets {w w4 : World} {B : Nat} (h : Below w.heap.size w w4) (hB : w.heap.size ≤ B) (x0 x1 x2 : Value) : Below w.heap.size w (((w4.setCell ⟨B, 0, none⟩ x0).setCell ⟨B, 1, none⟩ x1).setCell ⟨B, 2, none⟩ x2) := h.trans ((sets3_fr _ _ _).below (fun k hk => by omega) h.size)
theorem head_new {w w2 w4 : World} {n : Nat} (h1 : Below w.heap.size w w2) (h3 : Below n w2 w4) (hn : w2.heap.size ≤ n) (o : Obj) : Below w.heap.size w (w4.alloc o) := by
  have h := h1.trans (h3.mono (Nat.le_trans h1.size hn))
  exact h.alloc h.size o
theorem head_tm1 {w2 w4 : World} {o : Obj} {x : ByteArray × Int} {a : Option Addr} {c : Nat} {l : Fo} (h : FulTm w4 (fun q => (w2.alloc o).heap.size ≤ q) x a c l) {x0 x1 x2 : Value} : TmAt (((w4.setCell ⟨w2.heap.size, 0, none⟩ x0).setCell ⟨w2.heap.size, 1, none⟩ x1).setCell ⟨w2.heap.size, 2, none⟩ x2) x a c l :=
  (h.keep (fun q hq hlt => (sets3_fr _ _ _).same q hlt (by have hq : (w2.alloc o).heap.size ≤ q := hq; rw [World.size_alloc] at hq; omega))).tm
theorem head_tm2 {w2 w4 : World} {B : Nat} {x : ByteArray × Int} {a : Option Addr} {c : Nat} {l : Fo} (h : FulTm w4 (fun q => w2.heap.size ≤ q) x a c l) (hB : B < w2.heap.size) {x0 x1 x2 : Value} : TmAt (((w4.setCell ⟨B, 0, none⟩ x0).setCell ⟨B, 1, none⟩ x1).setCell ⟨B, 2, none⟩ x2) x a c l :=
  (h.keep (fun q hq hlt => (sets3_fr _ _ _).same q hlt (by have hq : w2.heap.size ≤ q := hq; omega))).tm
set_option maxRecDepth 100000 in
set_option maxHeartbeats 2000000 in
theorem head_any (w : World) : Calls Try.prog 4 #[] w fun e w' => e = .returned (.bool true) ∧ Below w.heap.size w w' := by
  obtain ⟨W0, hW0⟩ : ∃ W0, (w.alloc (.cells #[.string ⟨#[]⟩, .int .i64 0, .slice none 0 0, .string ⟨#[88]⟩, .int .i64 0, .slice none 0 0] 26)).alloc (.cells #[.string ⟨#[]⟩, .int .i64 3, .slice (some ⟨w.heap.size, 0, none⟩) 2 2] 26) = W0 := ⟨_, rfl⟩
  have hb0 : Below w.heap.size w W0 := by rw [← hW0]; exact (alloc_below0 w _).alloc (by simp) _
  have B0 : Box W0 w.heap.size 26 #[.string ⟨#[]⟩, .int .i64 0, .slice none 0 0, .string bX, .int .i64 0, .slice none 0 0] := by rw [← hW0]; exact (Box.new w 26 _).over _
  have B1 : Box W0 (w.heap.size + 1) 26 #[.string ⟨#[]⟩, .int .i64 3, .slice (some ⟨w.heap.size, 0, none⟩) 2 2] := by rw [← hW0]; exact box_new (by rw [World.size_alloc]) 26 _
  have hT : TmAt W0 (⟨#[]⟩, 3) (some ⟨w.heap.size, 0, none⟩) 2 headF := by
    refine ⟨⟨by decide, by decide, by decide, by decide⟩, .inr ⟨w.heap.size, 0, rfl, ⟨none, 0, B0.v rfl, B0.v rfl, B0.v rfl, ⟨by decide, by decide, by decide, by decide⟩, .inl rfl⟩, ⟨none, 0, B0.v rfl, B0.v rfl, B0.v rfl, ⟨by decide, by decide, by decide, by decide⟩, .inl rfl⟩, trivial⟩⟩
  have d0 := B1.v (k := 0) rfl; have d1 := B1.v (k := 1) rfl; have d2 := B1.v (k := 2) rfl
  have HT := hid hT; have HB0 := hid hb0
  have HSo : Hid (∀ W, Below W0.heap.size W0 W → Calls Try.prog 11 #[] W fun e w2 => ∃ g, e = .returned (.slice (some ⟨g, 0, none⟩) 5 5) ∧ Hid (Below W.heap.size W w2) ∧ (w2.cell? ⟨w.heap.size + 1, 0, none⟩ = some (.string ⟨#[]⟩) ∧ w2.cell? ⟨w.heap.size + 1, 1, none⟩ = some (.int .i64 3) ∧ w2.cell? ⟨w.heap.size + 1, 2, none⟩ = some (.slice (some ⟨w.heap.size, 0, none⟩) 2 2)) ∧ Hid (∀ W3, Below w2.heap.size w2 W3 → Calls Try.prog 6 #[.slice (some ⟨g, 0, none⟩) 5 5, .agg #[.string ⟨#[]⟩, .int .i64 3, .slice (some ⟨w.heap.size, 0, none⟩) 2 2], .agg #[.int .i64 3, .slice none 0 0, .int .i64 0, .int .i64 0, .int .i64 0]] W3 fun e w4 => ∃ a c, e = .returned (.tuple #[.agg #[.string ⟨#[]⟩, .int .i64 3, .slice a 2 c], .int .i64 0]) ∧ Hid (FulTm w4 (fun q => W3.heap.size ≤ q) (⟨#[]⟩, 3) a c headG) ∧ Hid (Below W3.heap.size W3 w4)) ∧ Hid (Below w.heap.size w w2)) := fun W hbW => by
    refine Calls.mono (some_any W) ?_
    rintro e w2 ⟨g, he, hS, hb2⟩
    have hb : Below W0.heap.size W0 w2 := hbW.trans (hb2.mono hbW.size)
    refine ⟨g, he, hb2, ⟨below_cell hb _ _ d0, below_cell hb _ _ d1, below_cell hb _ _ d2⟩, fun W3 hb3 => ?_, HB0.out.trans (hb.mono HB0.out.size)⟩
    have hC := pdo_any (some ⟨g, 0, none⟩) 5 5 someL ((⟨#[]⟩, 3), headF) (some ⟨w.heap.size, 0, none⟩) 2 ⟨3, 0, 0, 0⟩ [] none 0 0 W3 (hS.below hb3) ((HT.out.below hb).below hb3) (by decide) ⟨rfl, fun i hi => by simp at hi⟩ (by decide)
    rw [head_step] at hC
    refine Calls.mono hC ?_
    rintro e w4 ⟨a, c, he, hF, hb4⟩
    exact ⟨a, c, he, hF, hb4⟩
  clear hb0 B0 B1 hT
  go_enter Try.func4, Try.ntmps4
  go_wp2_with fail
  clear hW0
  have d0' := below_cell (alloc_below0 W0 (.cells #[.string ⟨#[]⟩, .int .i64 0, .slice none 0 0] 26)) _ _ d0; have d1' := below_cell (alloc_below0 W0 (.cells #[.string ⟨#[]⟩, .int .i64 0, .slice none 0 0] 26)) _ _ d1; have d2' := below_cell (alloc_below0 W0 (.cells #[.string ⟨#[]⟩, .int .i64 0, .slice none 0 0] 26)) _ _ d2
  go_cut [2, 3] (fun p e w' => ∃ B a c, p = .pointer (some ⟨B, 0, none⟩) ∧ e = .int .i64 0 ∧ Box w' B 26 #[.string ⟨#[]⟩, .int .i64 3, .slice a 2 c] ∧ TmAt w' (⟨#[]⟩, 3) a c headG ∧ Below w.heap.size w w')
  case first =>
    go_region_with (first
      | (go_at_call 11; refine Calls.mono (HSo.out (World.drew W0) ?_) ?_; exact (Below.refl _ _).drew; rintro e w2 ⟨g, rfl, HB2, ⟨g0, g1, g2⟩, HDo, HBw⟩; have g0' := below_cell (alloc_below0 w2 (.cells #[.string ⟨#[]⟩, .int .i64 0, .slice none 0 0] 26)) _ _ g0; have g1' := below_cell (alloc_below0 w2 (.cells #[.string ⟨#[]⟩, .int .i64 0, .slice none 0 0] 26)) _ _ g1; have g2' := below_cell (alloc_below0 w2 (.cells #[.string ⟨#[]⟩, .int .i64 0, .slice none 0 0] 26)) _ _ g2)
      | (go_at_call 11; refine Calls.mono (HSo.out (World.drew (World.alloc W0 (.cells #[.string ⟨#[]⟩, .int .i64 0, .slice none 0 0] 26))) ?_) ?_; exact (alloc_below0 _ _).drew; rintro e w2 ⟨g, rfl, HB2, ⟨g0, g1, g2⟩, HDo, HBw⟩; have g0' := below_cell (alloc_below0 w2 (.cells #[.string ⟨#[]⟩, .int .i64 0, .slice none 0 0] 26)) _ _ g0; have g1' := below_cell (alloc_below0 w2 (.cells #[.string ⟨#[]⟩, .int .i64 0, .slice none 0 0] 26)) _ _ g1; have g2' := below_cell (alloc_below0 w2 (.cells #[.string ⟨#[]⟩, .int .i64 0, .slice none 0 0] 26)) _ _ g2; have HXa : Hid (Box w2 W0.heap.size 26 #[.string ⟨#[]⟩, .int .i64 0, .slice none 0 0]) := Box.below (W := World.drew (World.alloc W0 (.cells #[.string ⟨#[]⟩, .int .i64 0, .slice none 0 0] 26))) (Box.new W0 26 _) HB2.out)
      | (go_at_call 6; refine Calls.mono (HDo.out w2 ?_) ?_; exact Below.refl _ _; rintro e w4 ⟨a, c, rfl, HT4, HB4⟩; have X4 := HXa.out.below HB4.out; have z0 := X4.v (k := 0) rfl; have z1 := X4.v (k := 1) rfl; have z2 := X4.v (k := 2) rfl; have f0 := X4.f 0; have f1 := X4.f 1; have f2 := X4.f 2; have HX4 := hid X4; clear X4)
      | (go_at_call 6; refine Calls.mono (HDo.out w2 ?_) ?_; exact Below.refl _ _; rintro e w4 ⟨a, c, rfl, HT4, HB4⟩)
      | (go_at_call 6; refine Calls.mono (HDo.out (World.alloc w2 (.cells #[.string ⟨#[]⟩, .int .i64 0, .slice none 0 0] 26)) ?_) ?_; exact alloc_below0 _ _; rintro e w4 ⟨a, c, rfl, HT4, HB4⟩; have X4 := (Box.new w2 26 #[.string ⟨#[]⟩, .int .i64 0, .slice none 0 0]).below HB4.out; have z0 := X4.v (k := 0) rfl; have z1 := X4.v (k := 1) rfl; have z2 := X4.v (k := 2) rfl; have f0 := X4.f 0; have f1 := X4.f 1; have f2 := X4.f 2; have HX4 := hid X4; clear X4)
      | fail)
    all_goals (go_wp2_with fail; go_meet)
    all_goals first
      | (refine ⟨w4.heap.size, a, c, ?_, ?_, ?_, ?_, ?_⟩; (with_reducible rfl); rfl; exact Box.new w4 26 _; exact HT4.out.tm.below (alloc_below0 _ _); exact head_new HBw.out HB4.out (Nat.le_refl _) _)
      | (refine ⟨w2.heap.size, a, c, ?_, ?_, ?_, ?_, ?_⟩; (with_reducible rfl); rfl; exact sets3_box HX4.out _ _ _; exact head_tm1 HT4.out; exact head_sets (head_low HBw.out (alloc_below0 _ _) HB4.out) HBw.out.size _ _ _)
      | (refine ⟨W0.heap.size, a, c, ?_, ?_, ?_, ?_, ?_⟩; (with_reducible rfl); rfl; exact sets3_box HX4.out _ _ _; exact head_tm2 HT4.out HXa.out.lt; exact head_sets (head_low HBw.out (Below.refl _ _) HB4.out) HB0.out.size _ _ _)
  case rest =>
    obtain ⟨B, a, c, rfl, rfl, hB, hT4, hb4⟩ := hcut
    obtain ⟨bb, oo, rfl, hk⟩ := hT4.args.get (by decide)
    obtain ⟨⟨a1, c1, q0, q1, q2, _, _⟩, ⟨a2, c2, p0, p1, p2, _, _⟩, _⟩ := hk
    have x1 := hB.v (k := 1) rfl; have x2 := hB.v (k := 2) rfl
    have hcc := hT4.sizes.len
    have HB4 := hid hb4
    have e88 : bX.toList = [88] := by decide +kernel
    clear hB hT4 hb4 HSo d0 d1 d2 d0' d1' d2'
    go_wp2
    go_ret
    exact ⟨rfl, HB4.out⟩
end Go.Proofs.Ytokbgbbkopmngab
/- Paths put together. -/
namespace Go.Proofs.Ytokbgbbkopmngab
open Go.RowKit Go.Deep

theorem intsV_one (l : List Int) : ∀ u ∈ intsV l, u.oneCell' = true := fun u hu => by
  obtain ⟨k, _, rfl⟩ := List.mem_map.1 hu
  rfl
theorem intsV_len (l : List Int) : (intsV l).length = l.length := by unfold intsV; rw [List.length_map]
theorem intsV_app (a b : List Int) : intsV (a ++ b) = intsV a ++ intsV b := by unfold intsV; rw [List.map_append]
set_option maxRecDepth 100000 in
/-- Numbers behind a list of one's own. -/
theorem app_ints {w : World} {B k : Nat} {v : Value} {xs : List Value} {pa : Option Addr} {pn pc : Nat} {ps : List Int} (ty : TypeId) (h : w.ownsRow B 3 1 v k xs) (hI : IntsAt w pa pn ps) (hk : k ≤ 2097152) (hp : pn ≤ 2097152) (hB : B ≤ w.heap.size) :
    ∃ v' w', (Builtin.append_ #[36, 36] ty #[v, .slice pa pn pc]).run Try.prog w = .ok v' w' ∧ w'.ownsRow B 3 1 v' (k + pn) (xs ++ intsV ps) ∧ w.grownBy w' v.ownBlock := by
  obtain ⟨i0, hi0, hz0, hz1, hz2⟩ := info_parts Try.info3
  obtain rfl := hI.len
  cases pa with
  | none =>
    have h0 : ps = [] := by
      cases ps with
      | nil => rfl
      | cons x r => obtain ⟨b, off, e, _⟩ := hI.cells 0 (by simp); cases e
    subst h0
    have : (Builtin.append_ #[36, 36] ty #[v, .slice none 0 pc]).run Try.prog w = .ok v w := by
      rcases h.2 with ⟨rfl, rfl⟩ | ⟨g, cap, cur, rfl, _, _, hnc, _⟩
      · simp [Builtin.append_, run_underlying Try.underlying36, sizeOf, typeInfo, hi0, Builtin.lenOf, Builtin.firstCells]
      · simp [Builtin.append_, run_underlying Try.underlying36, sizeOf, typeInfo, hi0, Builtin.lenOf, Builtin.firstCells, hnc, storeCells]
    exact ⟨_, _, this, by simpa [intsV] using h, ⟨rfl, rfl, rfl, Nat.le_refl _, fun _ _ _ => rfl⟩⟩
  | some ad =>
    obtain ⟨v', w1, hr1, hA1, hG1, _, _⟩ := run_append_own_at (P := Try.prog) w B 36 ty 3 i0 _ 1 8 Try.underlying36 hi0 hz0 hz1 hz2 rfl (by decide) v k xs h ad ps.length pc (intsV ps) (by rw [intsV_len, Nat.mul_one])
      (fun j u hu => by
        have hj : j < ps.length := by have := (List.getElem?_eq_some_iff.1 hu).1; rwa [intsV_len] at this
        obtain ⟨b, off, e, hc⟩ := hI.cells j hj
        cases e
        rw [Addr.add_lit]
        unfold intsV at hu
        rw [List.getElem?_map, List.getElem?_eq_getElem hj] at hu
        cases hu
        exact hc) (intsV_one ps) (by unfold maxLen; omega) (by omega) hB
    exact ⟨v', w1, hr1, hA1, hG1⟩
theorem ints_of_owns {w : World} {B k : Nat} {v : Value} {l : List Int} (h : w.ownsRow B 3 1 v k (intsV l)) (hk : k = l.length) : ∃ a c, v = .slice a k c ∧ IntsAt w a k l ∧ k ≤ c ∧ c ≤ maxLen ∧ ∀ ad, a = some ad → B ≤ ad.block := by
  rcases h.2 with ⟨h1, h2⟩ | ⟨g, c, cur, h1, h2, h3, h4, h5, h6, h7⟩
  · have e : l = [] := List.length_eq_zero_iff.1 (by omega)
    subst e
    exact ⟨none, 0, by rw [h1, h2], ⟨hk, fun i hi => absurd hi (by simp)⟩, by omega, Nat.zero_le _, fun ad e => by cases e⟩
  · refine ⟨some ⟨g, 0, none⟩, c, h1, ⟨hk, fun i hi => ⟨g, 0, rfl, ?_⟩⟩, h4, h5, fun ad e => by cases e; exact h2⟩
    rw [Nat.zero_add]
    refine cell_box h3 ?_
    have e1 : (intsV l)[i]? = some (.int .i64 l[i]) := by unfold intsV; rw [List.getElem?_map, List.getElem?_eq_getElem hi]; rfl
    rw [← h7, List.getElem?_take] at e1
    split at e1
    · rw [Array.getElem?_toList] at e1; exact e1
    · cases e1
set_option maxRecDepth 100000 in
/-- Two paths put together in new memory. -/
theorem app_two {w : World} {pa qa : Option Addr} {pn pc qn qc : Nat} {ps qs : List Int} (hI : IntsAt w pa pn ps) (hJ : IntsAt w qa qn qs) (hp : pn ≤ 1048576) (hq : qn ≤ 1048576) :
    ∃ v1 w1, (∀ ty, (Builtin.append_ #[36, 36] ty #[.slice (some ⟨w.heap.size, 0, none⟩) 0 0, .slice pa pn pc]).run Try.prog (w.alloc (.cells #[] 3)).drew = .ok v1 w1) ∧ Below w.heap.size w w1 ∧
      ∃ a c w2, (∀ ty, (Builtin.append_ #[36, 36] ty #[v1, .slice qa qn qc]).run Try.prog w1 = .ok (.slice a (pn + qn) c) w2) ∧ IntsAt w2 a (pn + qn) (ps ++ qs) ∧ pn + qn ≤ c ∧ c ≤ maxLen ∧ Below w.heap.size w w2 ∧ ∀ ad, a = some ad → w.heap.size ≤ ad.block := by
  have b0 : Below w.heap.size w (w.alloc (.cells #[] 3)).drew := (alloc_below0 w _).drew
  have hE : (w.alloc (.cells #[] 3)).drew.ownsRow w.heap.size 3 1 (.slice (some ⟨w.heap.size, 0, none⟩) 0 0) 0 [] := ⟨rfl, .inr ⟨w.heap.size, 0, #[], rfl, Nat.le_refl _, World.alloc_heap_new w _, Nat.le_refl _, Nat.zero_le _, rfl, rfl⟩⟩
  obtain ⟨v1, w1, hr1, hA1, hG1⟩ := app_ints (pc := pc) 36 hE (hI.below b0) (by omega) (by omega) b0.size
  have hb1 : Below w.heap.size w w1 := below_grown b0 hG1 (fun k hk => by have h7 : some w.heap.size = some k := hk; have := Option.some.inj h7; omega)
  rw [List.nil_append, Nat.zero_add] at hA1
  obtain ⟨v2, w2, hr2, hA2, hG2⟩ := app_ints (pc := qc) 36 hA1 (hJ.below hb1) (by omega) (by omega) hb1.size
  have hlo : ∀ k, v1.ownBlock = some k → w.heap.size ≤ k := fun k hk => by
    rcases hA1.2 with ⟨h1, _⟩ | ⟨g, c, cur, h1, h2, _⟩
    · rw [h1] at hk; cases hk
    · rw [h1] at hk; cases hk; exact h2
  have hb2 : Below w.heap.size w w2 := below_grown hb1 hG2 hlo
  rw [← intsV_app] at hA2
  obtain ⟨a, c, rfl, hI2, h1, h2, h3⟩ := ints_of_owns hA2 (by rw [hI.len, hJ.len, List.length_append])
  exact ⟨v1, w1, fun ty => hr1, hb1, a, c, w2, fun ty => hr2, hI2, h1, h2, hb2, h3⟩
end Go.Proofs.Ytokbgbbkopmngab
/- A clone of numbers. -/
namespace Go.Proofs.Ytokbgbbkopmngab
open Go.RowKit Go.Deep

theorem IntsAt.keep {w w' : World} {a : Option Addr} {n : Nat} {ps : List Int} (h : IntsAt w a n ps) (hk : ∀ ad, a = some ad → w'.heap[ad.block]? = w.heap[ad.block]?) : IntsAt w' a n ps :=
  ⟨h.len, fun i hi => by obtain ⟨b, o, e, hc⟩ := h.cells i hi; exact ⟨b, o, e, (World.cell?_of_block (w := w) (w' := w') (a := ⟨b, o + i, none⟩) (hk ⟨b, o, none⟩ e)).trans hc⟩⟩
theorem clone_run {w : World} {ps : List Int} {a : Addr} {pn pc : Nat} (hI : IntsAt w (some a) pn ps) (hn : pn ≤ 1048576) :
    ∃ a2 c2 w', (Builtin.append_ #[36, 36] 36 #[.slice (some ⟨w.heap.size, 0, none⟩) 0 0, .slice (some a) pn pc]).run Try.prog (w.alloc (.cells #[] 3)) = .ok (.slice a2 pn c2) w' ∧ IntsAt w' a2 pn ps ∧ pn ≤ c2 ∧ c2 ≤ maxLen ∧ Below w.heap.size w w' ∧ ∀ ad, a2 = some ad → w.heap.size ≤ ad.block := by
  have b0 : Below w.heap.size w (w.alloc (.cells #[] 3)) := alloc_below0 w _
  have hE : (w.alloc (.cells #[] 3)).ownsRow w.heap.size 3 1 (.slice (some ⟨w.heap.size, 0, none⟩) 0 0) 0 [] := ⟨rfl, .inr ⟨w.heap.size, 0, #[], rfl, Nat.le_refl _, World.alloc_heap_new w _, Nat.le_refl _, Nat.zero_le _, rfl, rfl⟩⟩
  obtain ⟨v1, w1, hr1, hA1, hG1⟩ := app_ints (pc := pc) 36 hE (hI.below b0) (by omega) (by omega) b0.size
  have hb1 : Below w.heap.size w w1 := below_grown b0 hG1 (fun k hk => by have h7 : some w.heap.size = some k := hk; have := Option.some.inj h7; omega)
  rw [List.nil_append, Nat.zero_add] at hA1
  obtain ⟨a2, c2, rfl, h1, h2, h3, h4⟩ := ints_of_owns hA1 hI.len
  exact ⟨a2, c2, w1, hr1, h1, h2, h3, hb1, h4⟩
set_option maxRecDepth 100000 in
set_option maxHeartbeats 2000000 in
theorem clonei_any (p : Option Addr) (pn pc : Nat) (ps : List Int) (w : World) (hI : IntsAt w p pn ps) (hn : pn ≤ 1048576) :
    Calls Try.prog 17 #[.slice p pn pc] w fun e w' => ∃ q d, e = .returned (.slice q pn d) ∧ IntsAt w' q pn ps ∧ pn ≤ d ∧ d ≤ maxLen ∧ Below w.heap.size w w' ∧ ∀ ad, q = some ad → w.heap.size ≤ ad.block := by
  cases p with
  | none =>
    have hn : ps = [] := by
      rcases Nat.eq_zero_or_pos ps.length with h0 | h0
      · exact List.eq_nil_of_length_eq_zero h0
      · obtain ⟨_, _, h1, _⟩ := hI.cells 0 h0
        cases h1
    subst hn
    obtain rfl : pn = 0 := hI.len
    have h1 : (binOp .eql 36 (.slice none 0 pc) (.slice none 0 0)).run Try.prog w = .ok (.bool true) w := rfl
    have HI := hid hI
    clear hI
    show Calls Try.prog 17 #[.slice none 0 pc] w _
    go_enter Try.func17, Try.ntmps17
    go_wp2_with fail
    go_ret
    exact ⟨none, 0, rfl, HI.out, Nat.le_refl _, Nat.zero_le _, Below.refl _ _, fun ad h => by cases h⟩
  | some a =>
    have h1 : (binOp .eql 36 (.slice (some a) pn pc) (.slice none 0 0)).run Try.prog w = .ok (.bool false) w := rfl
    obtain ⟨g, cap, w1, hr1, hA1, hc1, hm1, hB1, hlo⟩ := clone_run (pc := pc) hI hn
    have HA1 := hid hA1; have HB1 := hid hB1; have HC1 := hid hc1; have HM1 := hid hm1; have HLO := hid hlo
    clear hI hA1 hB1 hc1 hm1 hlo
    go_enter Try.func17, Try.ntmps17
    go_wp2_with (first
      | (at_builtin; refine Lib.wpList_append_run _ rfl _ _ _ _ rfl _ _ rfl rfl _ _ hr1 ?_; clear hr1)
      | fail)
    go_ret
    exact ⟨_, _, rfl, HA1.out, HC1.out, HM1.out, HB1.out, HLO.out⟩
end Go.Proofs.Ytokbgbbkopmngab
/- Back. -/
namespace Go.Proofs.Ytokbgbbkopmngab
open Go.RowKit Go.Deep

/-- What Back answers: the step that leads back, its path in new memory. -/
def BackEnd (w : World) (ps : List Int) (r : Option (Tn × Sp)) (e : Ending) (w' : World) : Prop := ∃ q n d, e = .returned (.tuple #[stepV (ansSp r) q n d, .int .i64 (ansC r)]) ∧ (r ≠ none → IntsAt w' q n ps) ∧ n ≤ 1048576 ∧ n ≤ d ∧ d ≤ maxLen ∧ Below w.heap.size w w' ∧ ∀ ad, q = some ad → w.heap.size ≤ ad.block
theorem set1_fr {W : World} {B k : Nat} (v : Value) : Fr (fun q => q = B) W (W.setCell ⟨B, k, none⟩ v) := ⟨(Below.refl 0 W).setCell (p := ⟨B, k, none⟩) (Nat.zero_le _) _, fun _ _ hq => set_far hq _⟩

set_option maxRecDepth 100000 in
set_option maxHeartbeats 4000000 in
theorem pback_any (S : Option Addr) (n cap : Nat) (L : List Sym) (t : Tn) (a : Option Addr) (c : Nat) (p : Sp) (ps : List Int) (pa : Option Addr) (pn pc : Nat) (w : World)
    (hS : SigAt w S n L) (hT : TmAt w t.1 a c t.2) (hn : nodesF t.2 ≤ 1048576) (hI : IntsAt w pa pn ps) (hpn : pn ≤ 1048576) :
    Calls Try.prog 8 #[.slice S n cap, .agg #[.string t.1.1, .int .i64 t.1.2, .slice a (lenF t.2) c], stepV p pa pn pc] w (BackEnd w ps (stepT (sgOf L) t ps p)) := by
  obtain ⟨r, hr⟩ : ∃ r, stepT (sgOf L) t ps p = r := ⟨_, rfl⟩
  rw [hr]
  obtain ⟨W0, hW0⟩ : ∃ W0, ((w.alloc (.cells #[.string t.1.1, .int .i64 t.1.2, .slice a (lenF t.2) c] 26)).alloc (.cells (stepC p pa pn pc) 38)).alloc (.cells (stepC zSp none 0 0) 38) = W0 := ⟨_, rfl⟩
  have hb0 : Below w.heap.size w W0 := by rw [← hW0]; exact ((alloc_below0 w _).alloc (by simp) _).alloc (by simp; omega) _
  have hsz : W0.heap.size = w.heap.size + 3 := by rw [← hW0]; simp
  have B0 : Box W0 w.heap.size 26 #[.string t.1.1, .int .i64 t.1.2, .slice a (lenF t.2) c] := by rw [← hW0]; exact ((Box.new w 26 _).over _).over _
  have B1 : Box W0 (w.heap.size + 1) 38 (stepC p pa pn pc) := by rw [← hW0]; exact (box_new (by rw [World.size_alloc]) 38 _).over _
  have B2 : Box W0 (w.heap.size + 2) 38 (stepC zSp none 0 0) := by rw [← hW0]; exact box_new (by rw [World.size_alloc, World.size_alloc]) 38 _
  have hC := cloneF_any t.1 t.2 a c W0 (hT.below hb0)
  have d0 := B0.v (k := 0) rfl; have d1 := B0.v (k := 1) rfl; have d2 := B0.v (k := 2) rfl
  have HB0 := hid hb0; have HSZ := hid hsz; have HX0 := hid B0; have HX1 := hid B1; have HX2 := hid B2; have HS := hid hS; have HI := hid hI
  have HR := hid hr; have HN := hid hn
  clear hb0 hsz B0 B1 B2 hS hT hI hr hn
  go_enter Try.func8, Try.ntmps8
  go_wp2_with fail
  clear hW0
  refine hC.mono ?_
  rintro e w1 ⟨a', c', rfl, hF1, hb1, _⟩
  have hsz0 := HSZ.out
  have hs1 := hb1.size
  have X0 := HX0.out.below hb1; have X1 := HX1.out.below hb1; have X2 := HX2.out.below hb1
  have x0 := X0.v (k := 0) rfl; have x1 := X0.v (k := 1) rfl; have x2 := X0.v (k := 2) rfl
  have xf0 := X0.f 0; have xf1 := X0.f 1; have xf2 := X0.f 2
  obtain ⟨W1, hW1⟩ : ∃ W1, ((w1.setCell ⟨w.heap.size, 0, none⟩ (.string t.1.1)).setCell ⟨w.heap.size, 1, none⟩ (.int .i64 t.1.2)).setCell ⟨w.heap.size, 2, none⟩ (.slice a' (lenF t.2) c') = W1 := ⟨_, rfl⟩
  have hFr : Fr (fun q => q = w.heap.size) w1 W1 := by rw [← hW1]; exact sets3_fr _ _ _
  have hsW : W1.heap.size = w1.heap.size := by rw [← hW1]; simp
  have Y0 : Box W1 w.heap.size 26 #[.string t.1.1, .int .i64 t.1.2, .slice a' (lenF t.2) c'] := by rw [← hW1]; exact sets3_box X0 _ _ _
  have Y1 := X1.fr hFr (by omega); have Y2 := X2.fr hFr (by omega)
  have hF2 : FulTm W1 (fun q => W0.heap.size ≤ q) t.1 a' c' t.2 := hF1.keep (fun q hq hlt => hFr.same q hlt (by omega))
  have hbW : Below w.heap.size w W1 := ((HB0.out.trans (hb1.mono HB0.out.size))).trans (hFr.below (fun k hk => by omega) (by omega))
  obtain ⟨ks, hks, hPl⟩ := pl_of_ful Y0 hF2 (by omega)
  have hSW : SigAt W1 S n L := HS.out.below hbW
  have hIW : IntsAt W1 pa pn ps := HI.out.below hbW
  have hD := within_any S n cap w.heap.size 0 L (fun q => W0.heap.size ≤ q) t a' c' ks _ p ps pa pn pc W1 hSW hPl hks HN.out hIW (by omega)
  rw [HR.out] at hD
  have y0 := Y1.v (k := 0) rfl; have y1 := Y1.v (k := 1) rfl; have y2 := Y1.v (k := 2) rfl; have y3 := Y1.v (k := 3) rfl; have y4 := Y1.v (k := 4) rfl
  have hws : w.heap.size + 3 ≤ W1.heap.size ∧ W0.heap.size = w.heap.size + 3 := ⟨by omega, by omega⟩
  have HY1 := hid Y1; have HY2 := hid Y2; have HBW := hid hbW; have HD := hid hD; have HSW := hid hsW
  clear hC d0 d1 d2 hF1 hb1 X0 X1 X2 hFr Y0 Y1 Y2 hF2 hbW hPl hks hSW hIW hD hsW hsz0 hs1
  have HWS : Hid (w.heap.size + 3 ≤ W1.heap.size ∧ W0.heap.size = w.heap.size + 3) := hws
  cases r with
  | none =>
    have hD2 : Calls Try.prog 15 #[.slice S n cap, .pointer (some ⟨w.heap.size, 0, none⟩), stepV p pa pn pc] W1 fun e w2 => e = .returned (.tuple #[stepV zSp none 0 0, .bool false]) ∧ Hid (Box w2 (w.heap.size + 2) 38 (stepC zSp none 0 0)) ∧ Hid (Below w.heap.size w w2) := by
      refine Calls.mono HD.out ?_
      rintro e w2 ⟨he, hb2⟩
      exact ⟨he, HY2.out.below hb2, HBW.out.trans (hb2.mono HBW.out.size)⟩
    have HD2 := hid hD2
    clear hD2 HD hws
    go_wp2_with (first | (go_at_call 15; refine HD2.out.mono ?_; rintro e w2 ⟨rfl, HZ, HB2⟩; have hbv := alloc_below0 w2 (.cells #[.int .i64 0, .slice none 0 0, .int .i64 0, .int .i64 0, .int .i64 0] 38); have Z := HZ.out.below hbv; have z0 := Z.v (k := 0) rfl; have z1 := Z.v (k := 1) rfl; have z2 := Z.v (k := 2) rfl; have z3 := Z.v (k := 3) rfl; have z4 := Z.v (k := 4) rfl; have f0 := Z.f 0; have f1 := Z.f 1; have f2 := Z.f 2; have f3 := Z.f 3; have f4 := Z.f 4; have HZV := hid Z; have HBV := hid (HB2.out.trans (hbv.mono HB2.out.size)); clear Z hbv) | fail)
    refine ret_step rfl rfl (sets5_box HZV.out _ _ _ _ _) rfl rfl ?_
    exact ⟨none, 0, 0, rfl, fun h => absurd rfl h, Nat.zero_le _, Nat.le_refl _, Nat.zero_le _, sets5_below HBV.out (by omega) _ _ _ _ _, fun ad e => by cases e⟩
  | some r =>
    have hD2 : Calls Try.prog 15 #[.slice S n cap, .pointer (some ⟨w.heap.size, 0, none⟩), stepV p pa pn pc] W1 fun e w2 => e = .returned (.tuple #[stepV r.2 none 0 0, .bool true]) ∧ Hid (Box w2 (w.heap.size + 1) 38 (stepC p pa pn pc)) ∧ Hid (Box w2 (w.heap.size + 2) 38 (stepC zSp none 0 0)) ∧ Hid (Below w.heap.size w w2) := by
      refine Calls.mono HD.out ?_
      rintro e w2 ⟨he, A', a2, c2, ks2, hk2, hU⟩
      have hlow : ∀ q, q < w.heap.size + 3 → q ≠ w.heap.size → w2.heap[q]? = W1.heap[q]? := fun q hq hne => hU.same q (by omega) (fun h => by have h : W0.heap.size ≤ q := h; omega) hne
      exact ⟨he, (hlow _ (by omega) (by omega)).trans HY1.out, (hlow _ (by omega) (by omega)).trans HY2.out, ⟨hU.low.os.trans HBW.out.os, hU.low.tape.trans HBW.out.tape, hU.low.output.trans HBW.out.output, Nat.le_trans HBW.out.size hU.low.size, fun q hq => (hlow q (by omega) (by omega)).trans (HBW.out.block q hq)⟩⟩
    have HD2 := hid hD2
    have HPN := hid hpn
    clear hD2 HD hws
    go_wp2_with (first
      | (go_at_call 15; refine HD2.out.mono ?_; rintro e w2 ⟨rfl, HX, HZ, HB2⟩; obtain ⟨V, hV⟩ : ∃ V, w2.alloc (.cells (stepC r.2 none 0 0) 38) = V := ⟨_, rfl⟩; have hbv : Below w2.heap.size w2 V := (by rw [← hV]; exact alloc_below0 _ _); have K : Box V w2.heap.size 38 (stepC r.2 none 0 0) := (by rw [← hV]; exact Box.new _ _ _); have Z := HZ.out.below hbv; have X := HX.out.below hbv; have x1' := X.v (k := 1) rfl; have hbV := HB2.out.trans (hbv.mono HB2.out.size); have HZV := hid Z; have HKV := hid K; have HBV := hid hbV; have HCl := hid (clonei_any pa pn pc ps V (HI.out.below hbV) HPN.out); have HLZ : Hid (w.heap.size + 2 < w2.heap.size) := HZ.out.lt; clear Z X K hbv hbV)
      | (go_at_call 17; refine HCl.out.mono ?_; rintro e w3 ⟨q, d, rfl, hI3, hd3, hm3, hb3, hlo3⟩; obtain ⟨W3, hW3⟩ : ∃ W3, w3.setCell ⟨w2.heap.size, 1, none⟩ (.slice q pn d) = W3 := ⟨_, rfl⟩; have K3 := HKV.out.below hb3; have kf1 := K3.f 1; have k1 := K3.v (k := 1) rfl; have hF3 : Fr (fun q => q = w2.heap.size) w3 W3 := (by rw [← hW3]; exact set1_fr _); have K4 : Box W3 w2.heap.size 38 (stepC r.2 q pn d) := (by rw [← hW3]; exact K3.set 1 _); have Z4 := (HZV.out.below hb3).fr hF3 (by have := HLZ.out; omega); have i0 := K4.v (k := 0) rfl; have i1 := K4.v (k := 1) rfl; have i2 := K4.v (k := 2) rfl; have i3 := K4.v (k := 3) rfl; have i4 := K4.v (k := 4) rfl; have z0 := Z4.v (k := 0) rfl; have z1 := Z4.v (k := 1) rfl; have z2 := Z4.v (k := 2) rfl; have z3 := Z4.v (k := 3) rfl; have z4 := Z4.v (k := 4) rfl; have f0 := Z4.f 0; have f1 := Z4.f 1; have f2 := Z4.f 2; have f3 := Z4.f 3; have f4 := Z4.f 4; have HZ4 := hid Z4; have HI3 := hid hI3; have HD3 := hid hd3; have HM3 := hid hm3; have HB3 := hid hb3; have HF3 := hid hF3; have HLO3 := hid hlo3; have HVS : Hid (w2.heap.size < V.heap.size) := HKV.out.lt; clear K3 K4 Z4 hI3 hd3 hm3 hb3 hF3 hlo3)
      | fail)
    refine ret_step rfl rfl (sets5_box HZ4.out _ _ _ _ _) rfl rfl ?_
    have hb3w : Below w.heap.size w w3 := HBV.out.trans (HB3.out.mono HBV.out.size)
    have hbW3 : Below w.heap.size w W3 := hb3w.trans (HF3.out.below (fun k hk => by have := HLZ.out; omega) hb3w.size)
    refine ⟨q, pn, d, rfl, fun _ => ?_, HPN.out, HD3.out, HM3.out, sets5_below hbW3 (by omega) _ _ _ _ _, fun ad e => Nat.le_trans HBV.out.size (HLO3.out ad e)⟩
    refine HI3.out.keep (fun ad e => ?_)
    have h1 := HLO3.out ad e
    have h2 := HVS.out
    have h3 := HLZ.out
    have hlt : ad.block < w3.heap.size ∨ ¬ ad.block < w3.heap.size := Decidable.em _
    rw [sets5_far (by omega)]
    rcases hlt with hlt | hlt
    · exact HF3.out.same _ hlt (by omega)
    · rw [← hW3]
      exact set_far (by omega) _
end Go.Proofs.Ytokbgbbkopmngab
/- A step's term is right where its own was: its nodes by their names and symbols. -/
namespace Go.Proofs.Ytokbgbbkopmngab
open Go.RowKit Go.Deep

/-! ### what holds of all nodes' names and symbols -/
def LabF (P : ByteArray × Int → Prop) : Fo → Prop
  | .nil => True
  | .node _ _ x l r => (P x ∧ LabF P l) ∧ LabF P r
def LabT (P : ByteArray × Int → Prop) (t : Tn) : Prop := P t.1 ∧ LabF P t.2
theorem lab_kids {P : ByteArray × Int → Prop} : ∀ {F : Fo}, LabF P F ↔ ∀ k ∈ kidsL F, LabT P k
  | .nil => by simp [LabF, kidsL]
  | .node b o x l r => by
    simp only [LabF, kidsL, List.mem_cons, forall_eq_or_imp]
    rw [lab_kids (F := r)]
    exact Iff.rfl
theorem lab_mk {P : ByteArray × Int → Prop} {l : List Tn} (h : ∀ k ∈ l, LabT P k) : LabF P (mkF l) := lab_kids.2 (by rw [kids_mk]; exact h)
theorem lab_sub {P : ByteArray × Int → Prop} : ∀ (ps : List Int) {t x : Tn}, LabT P t → subT ps t = some x → LabT P x
  | [], t, x, h, e => by simp only [subT, Option.some.injEq] at e; subst e; exact h
  | i :: ps, t, x, h, e => by
    simp only [subT] at e
    cases hk : kidT i t.2 with
    | none => rw [hk] at e; cases e
    | some k => rw [hk] at e; exact lab_sub ps (lab_kids.1 h.2 k (kidT_mem hk)) e
theorem lab_set {P : ByteArray × Int → Prop} : ∀ (n : Nat) {F : Fo} {t : Tn}, LabF P F → LabT P t → LabF P (setF n F t)
  | n, .nil, _, _, _ => by cases n <;> exact trivial
  | 0, .node b o x l r, t, h, ht => ⟨⟨ht.1, ht.2⟩, h.2⟩
  | n + 1, .node b o x l r, t, h, ht => ⟨h.1, lab_set n (F := r) h.2 ht⟩
theorem lab_put {P : ByteArray × Int → Prop} {u : Tn} (hu : LabT P u) : ∀ (ps : List Int) {t y : Tn}, LabT P t → putT u ps t = some y → LabT P y
  | [], t, y, h, e => by simp only [putT, Option.some.injEq] at e; subst e; exact hu
  | i :: ps, t, y, h, e => by
    simp only [putT] at e
    cases hk : kidT i t.2 with
    | none => rw [hk] at e; cases e
    | some k =>
      rw [hk] at e
      simp only at e
      cases hp : putT u ps k with
      | none => rw [hp] at e; cases e
      | some k' =>
        rw [hp] at e
        simp only [Option.some.injEq] at e
        subst e
        exact ⟨h.1, lab_set _ h.2 (lab_put hu ps (lab_kids.1 h.2 k (kidT_mem hk)) hp)⟩
theorem lab_lay {P : ByteArray × Int → Prop} {ks xs : List Tn} {i m : Nat} (h1 : ∀ k ∈ ks, LabT P k) (h2 : ∀ k ∈ xs, LabT P k) : LabF P (mkF (layL ks i m xs)) := lab_mk (fun k hk => by
  rcases lay_mem hk with h | h
  · exact h1 k h
  · exact h2 k h)
theorem stepN_lab {S : Sg} {P : ByteArray × Int → Prop} (hU : ∀ f u, S.unit f = some u → P (noB, u) ∧ P (noB, f)) {t t' : Tn} {p q : Sp} (ht : LabT P t) (h : stepN S t p = some (t', q)) : LabT P t' := by
  have hk := lab_kids.1 ht.2
  unfold stepN at h
  split at h
  · unfold growN at h
    cases hu : S.unit p.sym with
    | none => rw [hu] at h; cases h
    | some u =>
      rw [hu] at h
      simp only at h
      have hc : ∀ k ∈ [constT u], LabT P k := fun k hk => by rw [List.mem_singleton] at hk; subst hk; exact ⟨(hU _ _ hu).1, trivial⟩
      split at h
      · split at h
        · obtain ⟨rfl, rfl⟩ := Prod.mk.inj (Option.some.inj h)
          exact ⟨(hU _ _ hu).2, lab_lay (fun k hk => by rw [List.mem_singleton] at hk; subst hk; exact ht) hc⟩
        · cases h
      · split at h
        · split at h
          · obtain ⟨rfl, rfl⟩ := Prod.mk.inj (Option.some.inj h)
            exact ⟨ht.1, lab_lay hk hc⟩
          · cases h
        · cases h
  · split at h
    · rename_i hg
      have hno : t.1.1 = noB := by
        have := hg.1
        unfold gathN at this
        rw [Bool.and_eq_true] at this
        exact noName_eq this.1
      split at h
      · unfold flatN at h
        cases hy : (kidsL t.2)[p.at_.toNat]? with
        | none => rw [hy] at h; cases h
        | some y =>
          rw [hy] at h
          simp only at h
          split at h
          · obtain ⟨rfl, rfl⟩ := Prod.mk.inj (Option.some.inj h)
            exact ⟨ht.1, lab_lay hk (lab_kids.1 (hk y (List.mem_of_getElem? hy)).2)⟩
          · cases h
      · split at h
        · unfold groupN at h
          split at h
          · obtain ⟨rfl, rfl⟩ := Prod.mk.inj (Option.some.inj h)
            refine ⟨ht.1, lab_lay hk (fun k hk2 => ?_)⟩
            rw [List.mem_singleton] at hk2
            subst hk2
            refine ⟨?_, lab_mk (fun z hz => hk z (List.mem_of_mem_drop (List.mem_of_mem_take hz)))⟩
            have := ht.1
            rw [← hno]
            exact this
          · cases h
        · split at h
          · unfold swapN at h
            cases hy : (kidsL t.2)[p.at_.toNat]? with
            | none => rw [hy] at h; cases h
            | some y =>
              cases hz : (kidsL t.2)[p.at_.toNat + 1]? with
              | none => rw [hy, hz] at h; cases h
              | some z =>
                rw [hy, hz] at h
                obtain ⟨rfl, rfl⟩ := Prod.mk.inj (Option.some.inj h)
                refine ⟨ht.1, lab_lay hk (fun k hk2 => ?_)⟩
                simp only [List.mem_cons, List.not_mem_nil, or_false] at hk2
                rcases hk2 with rfl | rfl
                · exact hk _ (List.mem_of_getElem? hz)
                · exact hk _ (List.mem_of_getElem? hy)
          · split at h
            · split at h
              · unfold dropN at h
                cases hy : (kidsL t.2)[p.at_.toNat]? with
                | none => rw [hy] at h; cases h
                | some y =>
                  rw [hy] at h
                  simp only at h
                  split at h
                  · split at h
                    · cases hz : (kidsL t.2)[1 - p.at_.toNat]? with
                      | none => rw [hz] at h; cases h
                      | some z =>
                        rw [hz] at h
                        obtain ⟨rfl, rfl⟩ := Prod.mk.inj (Option.some.inj h)
                        exact hk _ (List.mem_of_getElem? hz)
                    · obtain ⟨rfl, rfl⟩ := Prod.mk.inj (Option.some.inj h)
                      exact ⟨ht.1, lab_lay hk (fun k hk => by cases hk)⟩
                  · cases h
              · cases h
            · cases h
    · cases h
theorem stepT_lab {S : Sg} {P : ByteArray × Int → Prop} (hU : ∀ f u, S.unit f = some u → P (noB, u) ∧ P (noB, f)) {t t' : Tn} {ps : List Int} {p q : Sp} (ht : LabT P t) (h : stepT S t ps p = some (t', q)) : LabT P t' := by
  obtain ⟨n, n', h1, h2, h3⟩ := stepT_some h
  exact lab_put (stepN_lab hU (lab_sub ps ht h1) h2) ps ht h3

/-! ### names and symbols of a signature -/
/-- A node's name and symbol, whatever its arguments are. -/
def labOk (l : List Sym) (x : ByteArray × Int) : Prop := if noName x.1 = false then ∀ n : Nat, x.2 = 0 → n = 0 → nodeErr l x n = 0 else (symAt l x.2).isSome = true
theorem then_of {a b : Int} (h1 : a = 0) (h2 : b = 0) : thenC a b = 0 := by subst h1 h2; rfl
theorem lab_of_err {l : List Sym} {x : ByteArray × Int} {n : Nat} (h : nodeErr l x n = 0) : labOk l x := by
  unfold labOk
  split
  · rename_i hx
    intro m h1 h2
    unfold nodeErr at h ⊢
    rw [if_pos hx] at h ⊢
    unfold varErr at h ⊢
    split at h
    · rename_i h3
      rw [if_pos ⟨h3.1, h1, h2⟩]
    · omega
  · rename_i hx
    unfold nodeErr at h
    rw [if_neg hx] at h
    split at h
    · rename_i h0
      split at h
      · rename_i s hs
        unfold symAt
        rw [if_pos h0, hs]; rfl
      · omega
    · omega
theorem err_of_lab {l : List Sym} (hc : checkE l = 0) {x : ByteArray × Int} {n : Nat} (h : labOk l x) (hn : nodeOk (sgOf l) (arAt l) x n) : nodeErr l x n = 0 := by
  unfold labOk at h
  unfold nodeOk at hn
  split at h
  · rename_i hx
    rw [if_pos hx] at hn
    exact h n hn.1 hn.2
  · rename_i hx
    rw [if_neg hx] at hn
    unfold nodeErr
    rw [if_neg hx]
    unfold symAt at h
    split at h
    · rename_i h0
      rw [if_pos h0]
      cases hs : l[x.2.toNat]? with
      | none => rw [hs] at h; cases h
      | some s =>
        simp only
        have hs' : symAt l x.2 = some s := by unfold symAt; rw [if_pos h0]; exact hs
        obtain ⟨hlt, hsk⟩ := List.getElem?_eq_some_iff.1 hs
        have hkb := (symErr_zero (right_each hc hlt)).2.1
        have hab := (symErr_zero (right_each hc hlt)).2.2.1
        rw [hsk] at hkb hab
        have hn' : if joinsAt l x.2 = true then 2 ≤ n else n = arAt l x.2 := hn
        unfold joinsAt arAt at hn'
        rw [hs'] at hn'
        dsimp only at hn'
        unfold kindB at hkb
        unfold arityB at hab
        have ht : takesB s n = true := by
          unfold takesB
          by_cases h1 : s.kind = 1
          · rw [if_pos h1] at hab ⊢
            rw [if_neg (by simp [h1])] at hn'
            simp only [beq_iff_eq]
            simp at hab
            omega
          · rw [if_neg h1]
            rw [if_pos (by simpa [h1] using hkb)] at hn'
            simpa using hn'
        rw [if_pos ht]
    · cases h
theorem labF_of_err {l : List Sym} : ∀ {F : Fo}, errF l F = 0 → LabF (labOk l) F
  | .nil, _ => trivial
  | .node _ _ x m r, he => by
    rw [errF] at he
    obtain ⟨h1, h2⟩ := then_zero he
    obtain ⟨h3, h4⟩ := then_zero h1
    exact ⟨⟨lab_of_err h3, labF_of_err h4⟩, labF_of_err h2⟩
theorem errF_of_lab {l : List Sym} (hc : checkE l = 0) : ∀ {F : Fo}, LabF (labOk l) F → RightF (sgOf l) (arAt l) F → errF l F = 0
  | .nil, _, _ => rfl
  | .node _ _ x m r, h, hr => by
    rw [errF]
    exact then_of (then_of (err_of_lab hc h.1.1 hr.1.1) (errF_of_lab hc h.1.2 hr.1.2)) (errF_of_lab hc h.2 hr.2)
theorem right_lab {l : List Sym} {t : Tn} (h : rightB l t = true) : checkE l = 0 ∧ LabT (labOk l) t := by
  unfold rightB at h
  simp only [Bool.and_eq_true, beq_iff_eq] at h
  have he := h.2
  unfold errT at he
  obtain ⟨h3, h4⟩ := then_zero he
  exact ⟨h.1, lab_of_err h3, labF_of_err h4⟩
theorem right_of {l : List Sym} {t : Tn} (hc : checkE l = 0) (h : LabT (labOk l) t) (hr : RightT (sgOf l) (arAt l) t) : rightB l t = true := by
  unfold rightB
  simp only [Bool.and_eq_true, beq_iff_eq]
  refine ⟨hc, ?_⟩
  unfold errT
  exact then_of (err_of_lab hc h.1 hr.1) (errF_of_lab hc h.2 hr.2)
theorem noB_lab {l : List Sym} {f : Int} (h : (symAt l f).isSome = true) : labOk l (noB, f) := by
  unfold labOk
  rw [if_neg (by rw [noName_noB]; simp)]
  exact h
theorem unit_lab {l : List Sym} (hc : checkE l = 0) : ∀ f u, (sgOf l).unit f = some u → labOk l (noB, u) ∧ labOk l (noB, f) := by
  intro f u hu
  simp only [sgOf, Option.map_eq_some_iff] at hu
  obtain ⟨i, hi, rfl⟩ := hu
  obtain ⟨hlt, _⟩ := unit_facts hc hi
  refine ⟨noB_lab (by rw [symAt_in hlt]; rfl), noB_lab ?_⟩
  unfold unitAt at hi
  split at hi
  · rename_i hf
    have : symAt l f = some l[f.toNat] := by unfold symAt; rw [if_pos hf.1, List.getElem?_eq_getElem hf.2]
    rw [this]; rfl
  · cases hi
theorem unit_joins {l : List Sym} : ∀ f u, (sgOf l).unit f = some u → (sgOf l).joins f = true := by
  intro f u hu
  simp only [sgOf, Option.map_eq_some_iff] at hu ⊢
  obtain ⟨i, hi, rfl⟩ := hu
  unfold unitAt at hi
  split at hi
  · rename_i hf
    split at hi
    · rename_i hk
      unfold joinsAt
      have : symAt l f = some l[f.toNat] := by unfold symAt; rw [if_pos hf.1, List.getElem?_eq_getElem hf.2]
      rw [this]
      simp [hk]
    · cases hi
  · cases hi
/-- A step of a right term leads to a right one, equal to it, and back of it leads back. -/
theorem step_sound {l : List Sym} {t t' : Tn} {ps : List Int} {p q : Sp} (ht : rightB l t = true) (hc : Cln t.2) (h : stepT (sgOf l) t ps p = some (t', q)) :
    rightB l t' = true ∧ Cln t'.2 ∧ canonT (sgOf l) t' = canonT (sgOf l) t ∧ ∃ q', stepT (sgOf l) t' ps q = some (t, q') := by
  obtain ⟨hOk, hR⟩ := right_facts ht
  obtain ⟨hE, hL⟩ := right_lab ht
  obtain ⟨r1, r2, r3, r4⟩ := stepT_ok hOk unit_joins hR hc h
  exact ⟨right_of hE (stepT_lab (unit_lab hE) hL h) r1, r2, r3, r4⟩
theorem rightB_cl {l : List Sym} {t : Tn} : rightB l (clT t) = rightB l t := by
  have hF : ∀ F : Fo, errF l (clF F) = errF l F := by
    intro F
    induction F with
    | nil => rfl
    | node b o x m r ihm ihr => simp only [clF, errF]; rw [ihm, ihr, clF_len]
  unfold rightB clT
  simp only
  unfold errT
  rw [hF, clF_len]
end Go.Proofs.Ytokbgbbkopmngab
/- The document's Over. -/
namespace Go.Proofs.Ytokbgbbkopmngab
open Go.RowKit Go.Deep Go.Shelf

def left0F : Fo → Int → Int
  | .nil, r => r
  | .node _ _ _ l s, r => if r < 0 then r else left0F s (left0F l (r - 1))
theorem left0F_bd : ∀ (F : Fo) (r : Int), -1 ≤ r → -1 ≤ left0F F r ∧ left0F F r ≤ r
  | .nil, r, h => ⟨h, Int.le_refl _⟩
  | .node _ _ x l s, r, h => by
    unfold left0F
    split
    · omega
    · have h1 := left0F_bd l (r - 1) (by omega)
      have h2 := left0F_bd s (left0F l (r - 1)) h1.1
      omega
theorem left0F_neg (F : Fo) (r : Int) (h : r < 0) : left0F F r = r := by
  cases F with
  | nil => rfl
  | node => unfold left0F; rw [if_pos h]
theorem left0F_eq : ∀ (F : Fo) (r : Int), 0 ≤ left0F F r → left0F F r = r - nodesF F
  | .nil, r, _ => by simp [left0F, nodesF]
  | .node _ _ x l s, r, h => by
    unfold left0F at h ⊢
    by_cases hr : r < 0
    · rw [if_pos hr] at h; omega
    · rw [if_neg hr] at h ⊢
      have h1 : 0 ≤ left0F l (r - 1) := by
        rcases Int.lt_or_le (left0F l (r - 1)) 0 with h2 | h2
        · rw [left0F_neg s _ h2] at h; omega
        · exact h2
      have e1 := left0F_eq l (r - 1) h1
      have e2 := left0F_eq s _ h
      rw [e2, e1]
      simp only [nodesF]
      omega
theorem left0F_nn : ∀ (F : Fo) (r : Int), (nodesF F : Int) ≤ r → 0 ≤ left0F F r
  | .nil, r, h => by simpa [left0F, nodesF] using h
  | .node _ _ x l s, r, h => by
    simp only [nodesF] at h
    unfold left0F
    rw [if_neg (by omega)]
    have h1 := left0F_nn l (r - 1) (by omega)
    have e1 := left0F_eq l (r - 1) h1
    exact left0F_nn s _ (by omega)
def OverOk (k : Nat) : Prop := ∀ (x : ByteArray × Int) (l : Fo) (a : Option Addr) (c : Nat) (room : Int) (w : World), nodesF l ≤ k → TmAt w x a c l → 0 ≤ room → room ≤ 1048576 →
  Calls Try.prog 16 #[.agg #[.string x.1, .int .i64 x.2, .slice a (lenF l) c], .int .i64 room] w fun e w' => e = .returned (.int .i64 (left0F l (room - 1))) ∧ Below w.heap.size w w'
set_option maxRecDepth 100000 in
set_option maxHeartbeats 2000000 in
theorem over_all : ∀ k, OverOk k := by
  intro k
  induction k using Nat.strongRecOn with
  | _ k ih =>
    intro x l a c room w hk hT hr0 hr4
    have HT := hid hT
    have IH : Hid (∀ j, j < k → OverOk j) := ih
    have O0 := hid (One.new w x a (lenF l) c)
    have hn0 := len_nodes l
    have hln : lenF l ≤ 2932031007402 := by have := hT.sizes.few; omega
    clear hT ih
    go_enter Try.func16, Try.ntmps16
    go_wp2_with fail
    generalize w.alloc (.cells #[.string x.1, .int .i64 x.2, .slice a (lenF l) c] 26) = V at O0 ⊢
    go_loopw [1, 5] (fun rv iv wr => ∃ (j : Nat) (r : Int), j ≤ lenF l ∧ rv = .int .i64 r ∧ iv = .int .i64 j ∧ -1 ≤ r ∧ r ≤ 1048576 ∧ One w x a (lenF l) c wr ∧ left0F (dropF j l) r = left0F l (room - 1)) (fun _ iv _ => lenF l - (intOf iv).toNat)
    case atStart => exact ⟨0, room - 1, Nat.zero_le _, rfl, rfl, by omega, by omega, O0.out, by rw [drop_zero]⟩
    case round =>
      obtain ⟨j, r, hj, rfl, rfl, hr1, hr2, hO, hm⟩ := hrel
      have HO := hid hO
      have t2 := hO.t.c2
      by_cases hlt : j < lenF l
      · obtain ⟨b1, o1, rfl, hk1⟩ := HT.out.args.get (by omega)
        obtain ⟨z, a1, c1, l1, kd⟩ := hk1.kid (k := j) hlt
        have kd' := kd.below hO.low
        obtain ⟨B1, O1', s1⟩ := kd.split
        rw [s1] at hm
        have p0 := kd'.name; have p1 := kd'.sym; have p2 := kd'.list
        by_cases hr : r < 0
        · rw [left0F_neg _ r hr] at hm
          clear kd kd' s1 hk1 hO
          go_wp2_with fail
          go_ret
          exact ⟨by rw [← hm] <;> rfl, HO.out.low⟩
        · have HC := hid (IH.out (nodesF l1) (by have := kd.less; omega) z l1 a1 c1 r wr (Nat.le_refl _) kd'.at_ (by omega) hr2)
          have hstep : left0F (dropF (j + 1) l) (left0F l1 (r - 1)) = left0F l (room - 1) := by
            rw [← hm]
            conv => rhs; unfold left0F
            rw [if_neg hr]
          have HS := hid hstep
          have hbd := left0F_bd l1 (r - 1) (by omega)
          clear kd kd' s1 hk1 hO hstep
          go_wp2_with fail
          refine HC.out.mono ?_
          rintro e w3 ⟨rfl, hb3⟩
          have HO4 := hid (HO.out.below hb3)
          clear hb3 p0 p1 p2 t2
          go_wp2_with fail
          go_roundw
          case rel => exact ⟨j + 1, left0F l1 (r - 1), by omega, rfl, by go_num, hbd.1, by omega, HO4.out, HS.out⟩
          case measure => simp [intOf]; omega
      · have e1 : j = lenF l := by omega
        rw [e1, drop_end] at hm
        have hm' : r = left0F l (room - 1) := hm
        go_wp2_with fail
        go_ret
        exact ⟨by rw [hm'] <;> rfl, HO.out.low⟩
/-- Over: are there more nodes than these? -/
theorem over_any (x : ByteArray × Int) (l : Fo) (a : Option Addr) (c : Nat) (most : Nat) (w : World) (hT : TmAt w x a c l) (hm : most ≤ 1048576) :
    Calls Try.prog 7 #[.agg #[.string x.1, .int .i64 x.2, .slice a (lenF l) c], .int .i64 most] w fun e w' => e = .returned (.bool (decide (most < nodesF l + 1))) ∧ Below w.heap.size w w' := by
  have O0 := hid (One.new w x a (lenF l) c)
  have b1 := alloc_below0 w (.cells #[.string x.1, .int .i64 x.2, .slice a (lenF l) c] 26)
  have HC := hid (over_all (nodesF l) x l a c most _ (Nat.le_refl _) (hT.below b1) (by omega) (by omega))
  have B1 := hid b1
  have t0 := O0.out.t.c0; have t1 := O0.out.t.c1; have t2 := O0.out.t.c2
  have hd : decide (left0F l ((most : Int) - 1) < 0) = decide (most < nodesF l + 1) := by
    by_cases h : 0 ≤ left0F l ((most : Int) - 1)
    · have := left0F_eq l _ h
      rw [decide_eq_false (by omega), decide_eq_false (by omega)]
    · rw [decide_eq_true (by omega), decide_eq_true]
      rcases Nat.lt_or_ge most (nodesF l + 1) with h1 | h1
      · exact h1
      · exact absurd (left0F_nn l ((most : Int) - 1) (by omega)) h
  have HD := hid hd
  clear hT b1 hd
  go_enter Try.func7, Try.ntmps7
  go_wp2_with fail
  refine HC.out.mono ?_
  rintro e w1 ⟨rfl, hb⟩
  have HL := hid (B1.out.trans (hb.mono B1.out.size))
  clear hb HC
  go_wp2_with fail
  go_ret
  exact ⟨by rw [← HD.out] <;> rfl, HL.out⟩
end Go.Proofs.Ytokbgbbkopmngab
/- How a term that came in is opened into a forest. -/
namespace Go.Proofs.Ytokbgbbkopmngab
open Go.ChangeShapes Go.WideShapes Go.ChangeAt Go.RowKit Go.Deep

theorem own : ownKnob Try.prog.godebug = none := by kernel_rfl
theorem laidOut : laidOutB Try.prog = true := by kernel_rfl
theorem addr_add (b off i : Nat) : (⟨b, off, none⟩ : Addr).add i = ⟨b, off + i, none⟩ := by
  unfold Addr.add
  split
  · rename_i h; subst h; rfl
  · rfl
theorem Try.cells26 : Try.prog.cellsOf 26 = 3 := by kernel_rfl
theorem Try.cells24 : Try.prog.cellsOf 24 = 1 := by kernel_rfl
theorem Try.cells9 : Try.prog.cellsOf 9 = 1 := by kernel_rfl
theorem Try.cells3 : Try.prog.cellsOf 3 = 1 := by kernel_rfl
theorem Try.bytes26 : Try.prog.bytesOf 26 = 48 := by kernel_rfl


/-- Small enough, by one of the two forms' bounds. -/
def Sz {H : Type} (d : DataW H) : Prop := (∀ m ∈ d.weights Try.prog 26, m ≤ 140737488351232) ∨ Rows.uptoBulk d ≤ 1048576
theorem weights_all {H : Type} {e : TypeId} {m : Nat} : ∀ {ds : List (DataW H)} {d : DataW H}, d ∈ ds → m ∈ d.weights Try.prog e → m ∈ DataW.weightsAll Try.prog e ds
  | d' :: r, d, hd, hm => by
    simp only [DataW.weightsAll, List.mem_append]
    rcases List.mem_cons.1 hd with rfl | h
    · exact .inl hm
    · exact .inr (weights_all h hm)
theorem bulk_all {H : Type} : ∀ {ds : List (DataW H)} {d : DataW H}, d ∈ ds → Rows.uptoBulk d ≤ Rows.uptoBulkAll ds
  | d' :: r, d, hd => by
    simp only [Rows.uptoBulkAll]
    rcases List.mem_cons.1 hd with rfl | h
    · omega
    · have := bulk_all h; omega
theorem bulk_pos {H : Type} (d : DataW H) : 1 ≤ Rows.uptoBulk d := by
  cases d with
  | lit l => cases l <;> simp [Rows.uptoBulk]
  | _ => simp [Rows.uptoBulk]
theorem bulk_len {H : Type} : ∀ ds : List (DataW H), ds.length ≤ Rows.uptoBulkAll ds
  | [] => Nat.le_refl _
  | d :: r => by
    have := bulk_len r
    have := bulk_pos d
    simp only [Rows.uptoBulkAll, List.length_cons]; omega

/-- Terms side by side make a forest. -/
theorem forest_of {H : Type} {W : World} {b : Nat} : ∀ (ds : List (DataW H × List MemPlace)) (o : Nat),
    (∀ (i : Nat) (h : i < ds.length), ∃ (p : ByteArray × Int) (a : Option Addr) (c : Nat) (l : Fo), (W.cell? ⟨b, o + i * 3, none⟩ = some (.string p.1) ∧ W.cell? ⟨b, o + i * 3 + 1, none⟩ = some (.int .i64 p.2) ∧ W.cell? ⟨b, o + i * 3 + 2, none⟩ = some (.slice a (lenF l) c)) ∧ TmAt W p a c l ∧ nodesF l + 1 ≤ Rows.uptoBulk ds[i].1) →
    ∃ F : Fo, lenF F = ds.length ∧ KidsAt W F b o ∧ nodesF F ≤ Rows.uptoBulkAll (ds.map (·.1))
  | [], o, _ => ⟨.nil, rfl, trivial, Nat.zero_le _⟩
  | d :: r, o, h => by
    obtain ⟨F, hl, hk, hn⟩ := forest_of r (o + 3) (fun i hi => by
      obtain ⟨p, a, c, l, ⟨h0, h1, h2⟩, h3, h4⟩ := h (i + 1) (by simpa using hi)
      rw [show o + (i + 1) * 3 = o + 3 + i * 3 by omega] at h0 h1 h2
      exact ⟨p, a, c, l, ⟨h0, h1, h2⟩, h3, h4⟩)
    obtain ⟨p, a, c, l, ⟨h0, h1, h2⟩, h3, h4⟩ := h 0 (by simp)
    simp only [Nat.zero_mul, Nat.add_zero, List.getElem_cons_zero] at h0 h1 h2 h4
    refine ⟨.node 0 0 p l F, by simp [lenF, hl], ⟨⟨a, c, h0, h1, h2, h3.sizes, h3.args⟩, hk⟩, ?_⟩
    simp only [nodesF, List.map_cons, Rows.uptoBulkAll]
    omega

set_option maxRecDepth 100000 in
theorem term_open {H : Type} {enc : TypeId × Value → H} {W : World} : ∀ (fuel : Nat) (cs : List Value) (x : DataW H × List MemPlace), DataW.trod enc Try.prog W 0 (fun _ => true) true fuel 26 cs = some x → Sz x.1 →
    ∃ (p : ByteArray × Int) (a : Option Addr) (c : Nat) (l : Fo), cs = [.string p.1, .int .i64 p.2, .slice a (lenF l) c] ∧ TmAt W p a c l ∧ nodesF l + 1 ≤ Rows.uptoBulk x.1 := by
  intro fuel
  induction fuel using Nat.strongRecOn with
  | _ fuel ih =>
    intro cs x h hz
    obtain ⟨xs, n, hfuel, hx, hl, hlen, hf⟩ := DataW.trod_struct Try.underlying26 h
    rw [Try.cells26] at hl
    match xs, hlen, cs, hl with
    | [y0, y1, y2], _, [v0, v1, v2], _ =>
      have g0 := hf 0 _ rfl
      have g1 := hf 1 _ rfl
      have g2 := hf 2 _ rfl
      simp [Try.cells9, Try.cells3, Try.cells24] at g0 g1 g2
      obtain ⟨s0, e0, k0, f0⟩ := DataW.trod_string Try.underlying9 g0
      obtain ⟨n1, e1, k1, _⟩ := DataW.trod_int Try.underlying3 g1
      simp at e0 e1
      subst e0 e1 hx
      rcases DataW.trod_slice Try.underlying24 g2 with ⟨hcs, h2⟩ | ⟨ad, len, c, elems, rest, n', hn', hcs, h2, _, hlc, hcm, hlen2, hel, _, _⟩
      · simp at hcs
        subst hcs
        exact ⟨(s0, n1), none, 0, .nil, rfl, ⟨⟨f0, by simp [lenF], by simp, by simp [lenF]⟩, .inl rfl⟩, by simp [nodesF, Rows.uptoBulk, Rows.uptoBulkAll]⟩
      · simp at hcs
        subst hcs
        rw [Try.cells26] at hel
        have hb2 : Rows.uptoBulkAll (elems.map (·.1)) + 1 ≤ Rows.uptoBulk (DataW.agg (List.map (·.1) [y0, y1, y2])) := by
          simp only [List.map_cons, List.map_nil, Rows.uptoBulk, Rows.uptoBulkAll, h2]; omega
        have hsub : ∀ d ∈ elems, Sz d.1 := by
          intro d hd
          rcases hz with hz | hz
          · refine .inl fun m hm => hz m ?_
            have : m ∈ DataW.weightsAll Try.prog 26 (elems.map (·.1)) := weights_all (List.mem_map_of_mem hd) hm
            simp [DataW.weights, Try.underlying26, DataW.weightsEach, h2, Try.underlying24, this]
          · refine .inr ?_
            have := bulk_all (List.mem_map_of_mem (f := (·.1)) hd)
            simp only at hz
            omega
        have hfew : len * 48 ≤ 140737488351232 := by
          rcases hz with hz | hz
          · have := hz ((elems.length + rest.length) * 48) (by simp [DataW.weights, Try.underlying26, DataW.weightsEach, h2, Try.underlying24, Try.bytes26])
            rw [hlen2] at this
            omega
          · have := bulk_len (elems.map (·.1))
            rw [List.length_map, hlen2] at this
            simp only at hz
            omega
        have each : ∀ i (hi : i < elems.length), ∃ (p : ByteArray × Int) (a : Option Addr) (c : Nat) (l : Fo), W.cells? 0 (ad.add (i * 3)) 3 = some [.string p.1, .int .i64 p.2, .slice a (lenF l) c] ∧ TmAt W p a c l ∧ nodesF l + 1 ≤ Rows.uptoBulk elems[i].1 := by
          intro i hi
          have h1 := hel i (by omega)
          rw [List.getElem?_eq_getElem hi] at h1
          cases hc : W.cells? 0 (ad.add (i * 3)) 3 with
          | none => rw [hc] at h1; cases h1
          | some cs' =>
            rw [hc] at h1
            obtain ⟨p, a, c, l, rfl, h3, h4⟩ := ih n' (by omega) cs' elems[i] h1 (hsub _ (List.getElem_mem hi))
            exact ⟨p, a, c, l, rfl, h3, h4⟩
        by_cases hz0 : len = 0
        · subst hz0
          exact ⟨(s0, n1), some ad, c, .nil, rfl, ⟨⟨f0, by simp [lenF], hcm, by simp [lenF]⟩, .inl rfl⟩, by simp only [nodesF]; omega⟩
        · obtain ⟨b, off, spot⟩ := ad
          have hspot : spot = none := by
            obtain ⟨p, a, c, l, h3, _⟩ := each 0 (by omega)
            obtain ⟨_, _, h30⟩ := World.cells?_some h3
            have := h30 0 (by omega)
            simpa [Addr.add] using World.cell?_spot this
          subst hspot
          obtain ⟨F, hFl, hFk, hFn⟩ := forest_of (W := W) (b := b) elems off (fun i hi => by
            obtain ⟨p, a, c, l, h3, h4, h5⟩ := each i hi
            rw [addr_add] at h3
            obtain ⟨_, _, h30⟩ := World.cells?_some h3
            have q0 := h30 0 (by omega)
            have q1 := h30 1 (by omega)
            have q2 := h30 2 (by omega)
            rw [addr_add] at q0 q1 q2
            exact ⟨p, a, c, l, ⟨q0, q1, q2⟩, h4, h5⟩)
          have hFl' : lenF F = len := by rw [hFl, hlen2]
          exact ⟨(s0, n1), some ⟨b, off, none⟩, c, F, by rw [hFl'], ⟨⟨f0, by omega, hcm, by rw [hFl']; exact hfew⟩, .inr ⟨b, off, rfl, hFk⟩⟩, Nat.le_trans (Nat.succ_le_succ hFn) hb2⟩

set_option maxRecDepth 100000 in
/-- A term that came in. -/
theorem termv_open {H : Type} {enc : TypeId × Value → H} {W : World} {r : Reach} {b0 : Nat} {v : Value} {d : DataW H} {ps : List MemPlace} (hv : Value.okWide Try.prog W r b0 26 v)
    (h : DataW.Trod enc Try.prog W 0 (fun _ => true) true 26 v d ps) (hz : Sz d) :
    ∃ (p : ByteArray × Int) (a : Option Addr) (c : Nat) (l : Fo), v = .agg #[.string p.1, .int .i64 p.2, .slice a (lenF l) c] ∧ TmAt W p a c l ∧ nodesF l + 1 ≤ Rows.uptoBulk d := by
  obtain ⟨cs, rfl, hsz⟩ := okWide_struct Try.underlying26 hv
  obtain ⟨c0, c1, c2, rfl⟩ := Joins.array3 (hsz.trans Try.cells26)
  obtain ⟨fuel, hf⟩ := h
  obtain ⟨p, a, c, l, hcs, h1, h2⟩ := term_open fuel _ _ hf hz
  simp [Value.cells] at hcs
  obtain ⟨rfl, rfl, rfl⟩ := hcs
  exact ⟨p, a, c, l, rfl, h1, h2⟩
/-- Within the first form's reach. -/
theorem sz_of_weights {H : Type} {ts : List TypeId} {ds : List (DataW H)} {j : Nat} {d : DataW H} (h : (DataW.weightsEach Try.prog ts ds).all (· ≤ reachBytes) = true) (ht : ts[j]? = some 26) (hd : ds[j]? = some d) : Sz d :=
  .inl fun m hm => by
    have := List.all_eq_true.1 h _ (DataW.weights_mem_each ht hd m hm)
    have e : reachBytes = 140737488351232 := rfl
    rw [e] at this
    simpa using this
end Go.Proofs.Ytokbgbbkopmngab
/- What the statements' own 'right' answers of a signature, two terms and a list. -/
namespace Go.Proofs.Ytokbgbbkopmngab
open Go.RowKit Go.Deep

/-- What a statement is asked about, in memory. -/
structure TwoAt (w : World) (S : Option Addr) (n : Nat) (l : List Sym) (A B : Tn) (a b : Option Addr) (c d : Nat) (La : Option Addr) (F : Fo) : Prop where
  sig : SigAt w S n l
  a : TmAt w A.1 a c A.2
  b : TmAt w B.1 b d B.2
  l : ArgsAt w La F
  few : lenF F * 48 ≤ 140737488351232
set_option maxRecDepth 100000 in
theorem TwoAt.below {w w' : World} {S : Option Addr} {n : Nat} {l : List Sym} {A B : Tn} {a b : Option Addr} {c d : Nat} {La : Option Addr} {F : Fo} (h : TwoAt w S n l A B a b c d La F) (hb : Below w.heap.size w w') : TwoAt w' S n l A B a b c d La F :=
  ⟨h.sig.below hb, h.a.below hb, h.b.below hb, h.l.below hb, h.few⟩
def twoC (S : Option Addr) (n cap : Nat) (A B : Tn) (a b : Option Addr) (c d : Nat) (f : Int) (La : Option Addr) (F : Fo) (lc : Nat) : Array Value :=
  #[.slice S n cap, .string A.1.1, .int .i64 A.1.2, .slice a (lenF A.2) c, .string B.1.1, .int .i64 B.1.2, .slice b (lenF B.2) d, .int .i64 f, .slice La (lenF F) lc]
/-- The box of it. -/
def WBox (W : World) (g : Nat) (cs : Array Value) : Prop := W.heap[g]? = some (.cells cs 28 (0, 0))
set_option maxRecDepth 100000 in
theorem WBox.below {W W' : World} {g : Nat} {cs : Array Value} (h : WBox W g cs) (hb : Below W.heap.size W W') : WBox W' g cs := (hb.block g (Array.getElem?_eq_some_iff.1 h).1).trans h
set_option maxRecDepth 100000 in
theorem WBox.c {W : World} {g : Nat} {cs : Array Value} (h : WBox W g cs) (k : Nat) {v : Value} (hv : cs[k]? = some v) : W.cell? ⟨g, k, none⟩ = some v := by simp [World.cell?, show W.heap[g]? = _ from h, hv]

end Go.Proofs.Ytokbgbbkopmngab
/- How what a statement of layer 4 is asked about is opened: a signature, two terms, a symbol's place, a list of terms. -/
namespace Go.Proofs.Ytokbgbbkopmngab
open Go.ChangeShapes Go.WideShapes Go.ChangeAt Go.RowKit Go.Deep

set_option maxRecDepth 100000 in
theorem list_of_each {α : Type} {p : Nat → α → Prop} : ∀ n : Nat, (∀ i, i < n → ∃ x, p i x) → ∃ l : List α, l.length = n ∧ ∀ i (h : i < l.length), p i l[i]
  | 0, _ => ⟨[], rfl, fun i h => absurd h (by simp)⟩
  | n + 1, h => by
    obtain ⟨l, hl, hp⟩ := list_of_each n (fun i hi => h i (by omega))
    obtain ⟨x, hx⟩ := h n (by omega)
    refine ⟨l ++ [x], by simp [hl], fun i hi => ?_⟩
    by_cases hin : i < l.length
    · rw [List.getElem_append_left hin]; exact hp i hin
    · have : i = n := by simp at hi; omega
      subst this
      rw [List.getElem_append_right (by omega)]
      simpa [hl] using hx

set_option maxRecDepth 100000 in
theorem Try.cells57 : Try.prog.cellsOf 57 = 4 := by kernel_rfl
set_option maxRecDepth 100000 in
theorem Try.cells55 : Try.prog.cellsOf 55 = 1 := by kernel_rfl
set_option maxRecDepth 100000 in
theorem Try.bytes57 : Try.prog.bytesOf 57 = 48 := by kernel_rfl

set_option maxRecDepth 100000 in
/-- One symbol's reading. -/
theorem sym_open {H : Type} {enc : TypeId × Value → H} {W : World} {base : Nat} {spare : Nat → Bool} {held : Bool} {fuel : Nat} {cs : List Value} {x : DataW H × List MemPlace}
    (h : DataW.trod enc Try.prog W base spare held fuel 57 cs = some x) : ∃ y : Sym, cs = [.string y.name, .int .i64 y.kind, .int .i64 y.arity, .string y.unit] ∧ y.Fits := by
  obtain ⟨y0, y1, y2, y3, n, _, hl, h0, h1, h2, h3⟩ := Joins.trod_struct4 Try.underlying57 h
  rw [Try.cells57] at hl
  simp only [Try.cells9, Try.cells55, Try.cells3] at h0 h1 h2 h3
  match cs, hl with
  | [c0, c1, c2, c3], _ =>
    obtain ⟨s0, e0, _, f0⟩ := DataW.trod_string Try.underlying9 h0
    obtain ⟨n1, e1, _, _⟩ := DataW.trod_int Try.underlying55 h1
    obtain ⟨n2, e2, _, _⟩ := DataW.trod_int Try.underlying3 h2
    obtain ⟨s3, e3, _, f3⟩ := DataW.trod_string Try.underlying9 h3
    simp at e0 e1 e2 e3
    subst e0 e1 e2 e3
    exact ⟨⟨s0, n1, n2, s3⟩, rfl, f0, f3⟩

set_option maxRecDepth 100000 in
theorem sig_open {H : Type} {enc : TypeId × Value → H} {W : World} {fuel : Nat} {v : Value} {y : DataW H × List MemPlace}
    (hf : DataW.trod enc Try.prog W 0 (fun _ => true) true fuel 23 [v] = some y) :
    ∃ a len cap l, v = .slice a len cap ∧ SigAt W a len l ∧ len ≤ cap := by
  rcases DataW.trod_slice Try.underlying23 hf with ⟨hcs, _⟩ | ⟨x, len, cap, elems, rest, n, _, hcs, hx, hb, hl, hm, hlen, hel, _, _⟩
  · simp at hcs
    subst hcs
    exact ⟨none, 0, 0, [], rfl, ⟨rfl, by simp, fun i hi => absurd hi (by simp), fun s hs => absurd hs (by simp)⟩, Nat.le_refl _⟩
  · simp at hcs
    subst hcs
    rw [Try.cells57] at hel
    have each : ∀ i, i < len → ∃ y : Sym, (∃ cs, W.cells? 0 (x.add (i * 4)) 4 = some cs ∧ cs = [.string y.name, .int .i64 y.kind, .int .i64 y.arity, .string y.unit]) ∧ y.Fits := by
      intro i hi
      have h1 := hel i hi
      rw [List.getElem?_eq_getElem (by omega)] at h1
      cases hc : W.cells? 0 (x.add (i * 4)) 4 with
      | none => rw [hc] at h1; cases h1
      | some cs =>
        rw [hc] at h1
        obtain ⟨y, hy, hyf⟩ := sym_open h1
        exact ⟨y, ⟨cs, rfl, hy⟩, hyf⟩
    obtain ⟨ll, hll, hp⟩ := list_of_each len each
    refine ⟨some x, len, cap, ll, rfl, ⟨hll.symm, by omega, fun i hi => ?_, fun y hy => ?_⟩, hl⟩
    · obtain ⟨⟨cs, h1, h2⟩, _⟩ := hp i hi
      obtain ⟨b, off, spot⟩ := x
      have hspot : spot = none := by
        obtain ⟨⟨cs0, h10, h20⟩, _⟩ := hp 0 (by omega)
        obtain ⟨_, _, h30⟩ := World.cells?_some h10
        have := h30 0 (by omega)
        rw [h20] at this
        simpa [Addr.add] using World.cell?_spot this
      subst hspot
      refine ⟨b, off, rfl, ?_⟩
      rw [addr_add] at h1
      obtain ⟨_, _, h3⟩ := World.cells?_some h1
      subst h2
      have k0 := h3 0 (by omega)
      have k1 := h3 1 (by omega)
      have k2 := h3 2 (by omega)
      have k3 := h3 3 (by omega)
      rw [addr_add] at k0 k1 k2 k3
      exact ⟨k0, k1, k2, k3⟩
    · obtain ⟨i, hi, rfl⟩ := List.getElem_of_mem hy
      exact (hp i hi).2


set_option maxRecDepth 100000 in
theorem Try.cells23 : Try.prog.cellsOf 23 = 1 := by kernel_rfl
set_option maxRecDepth 100000 in
/-- A list of terms that came in. -/
theorem args_open {H : Type} {enc : TypeId × Value → H} {W : World} {fuel : Nat} {v : Value} {y : DataW H × List MemPlace} (hf : DataW.trod enc Try.prog W 0 (fun _ => true) true fuel 24 [v] = some y) (hz : Rows.uptoBulk y.1 ≤ 1048576) :
    ∃ a cap F, v = .slice a (lenF F) cap ∧ ArgsAt W a F ∧ nodesF F + 1 ≤ Rows.uptoBulk y.1 := by
  rcases DataW.trod_slice Try.underlying24 hf with ⟨hcs, h2⟩ | ⟨ad, len, c, elems, rest, n', hn', hcs, h2, _, hlc, hcm, hlen2, hel, _, _⟩
  · simp at hcs
    subst hcs
    exact ⟨none, 0, .nil, rfl, .inl rfl, bulk_pos _⟩
  · simp at hcs
    subst hcs
    rw [Try.cells26] at hel
    have hb2 : Rows.uptoBulkAll (elems.map (·.1)) + 1 ≤ Rows.uptoBulk y.1 := by
      simp only [h2, Rows.uptoBulk]; omega
    have hsub : ∀ d ∈ elems, Sz d.1 := by
      intro d hd
      refine .inr ?_
      have := bulk_all (List.mem_map_of_mem (f := (·.1)) hd)
      omega
    have each : ∀ i (hi : i < elems.length), ∃ (p : ByteArray × Int) (a : Option Addr) (c : Nat) (l : Fo), W.cells? 0 (ad.add (i * 3)) 3 = some [.string p.1, .int .i64 p.2, .slice a (lenF l) c] ∧ TmAt W p a c l ∧ nodesF l + 1 ≤ Rows.uptoBulk elems[i].1 := by
      intro i hi
      have h1 := hel i (by omega)
      rw [List.getElem?_eq_getElem hi] at h1
      cases hc : W.cells? 0 (ad.add (i * 3)) 3 with
      | none => rw [hc] at h1; cases h1
      | some cs' =>
        rw [hc] at h1
        obtain ⟨p, a, c, l, rfl, h3, h4⟩ := term_open n' cs' elems[i] h1 (hsub _ (List.getElem_mem hi))
        exact ⟨p, a, c, l, rfl, h3, h4⟩
    by_cases hz0 : len = 0
    · subst hz0
      exact ⟨some ad, c, .nil, rfl, .inl rfl, bulk_pos _⟩
    · obtain ⟨b, off, spot⟩ := ad
      have hspot : spot = none := by
        obtain ⟨p, a, c, l, h3, _⟩ := each 0 (by omega)
        obtain ⟨_, _, h30⟩ := World.cells?_some h3
        have := h30 0 (by omega)
        simpa [Addr.add] using World.cell?_spot this
      subst hspot
      obtain ⟨F, hFl, hFk, hFn⟩ := forest_of (W := W) (b := b) elems off (fun i hi => by
        obtain ⟨p, a, c, l, h3, h4, h5⟩ := each i hi
        rw [addr_add] at h3
        obtain ⟨_, _, h30⟩ := World.cells?_some h3
        have q0 := h30 0 (by omega)
        have q1 := h30 1 (by omega)
        have q2 := h30 2 (by omega)
        rw [addr_add] at q0 q1 q2
        exact ⟨p, a, c, l, ⟨q0, q1, q2⟩, h4, h5⟩)
      have hFl' : lenF F = len := by rw [hFl, hlen2]
      exact ⟨some ⟨b, off, none⟩, c, F, by rw [hFl'], .inr ⟨b, off, rfl, hFk⟩, by omega⟩
end Go.Proofs.Ytokbgbbkopmngab
/- How a signature, two terms and steps that came in are opened. -/
namespace Go.Proofs.Ytokbgbbkopmngab
open Go.ChangeShapes Go.WideShapes Go.ChangeAt Go.RowKit Go.Deep

set_option maxRecDepth 100000 in
theorem Try.cells38 : Try.prog.cellsOf 38 = 5 := by kernel_rfl
set_option maxRecDepth 100000 in
theorem Try.cells35 : Try.prog.cellsOf 35 = 1 := by kernel_rfl
set_option maxRecDepth 100000 in
theorem Try.cells36 : Try.prog.cellsOf 36 = 1 := by kernel_rfl
set_option maxRecDepth 100000 in
theorem Try.cells27 : Try.prog.cellsOf 27 = 1 := by kernel_rfl
set_option maxRecDepth 100000 in
theorem Try.cells29 : Try.prog.cellsOf 29 = 8 := by kernel_rfl
set_option maxRecDepth 100000 in
theorem ints_open {H : Type} {enc : TypeId × Value → H} {W : World} {fuel : Nat} {v : Value} {y : DataW H × List MemPlace} (hf : DataW.trod enc Try.prog W 0 (fun _ => true) true fuel 36 [v] = some y) :
    ∃ a n c l, v = .slice a n c ∧ IntsAt W a n l ∧ n ≤ c ∧ c ≤ maxLen ∧ n + 1 ≤ Rows.uptoBulk y.1 := by
  rcases DataW.trod_slice Try.underlying36 hf with ⟨hcs, h2⟩ | ⟨ad, len, c, elems, rest, n', hn', hcs, h2, _, hlc, hcm, hlen2, hel, _, _⟩
  · simp at hcs
    subst hcs
    exact ⟨none, 0, 0, [], rfl, ⟨rfl, fun i h => absurd h (by simp)⟩, Nat.le_refl _, Nat.zero_le _, bulk_pos _⟩
  · simp at hcs
    subst hcs
    rw [Try.cells3] at hel
    have hb2 : len + 1 ≤ Rows.uptoBulk y.1 := by
      have := bulk_len (elems.map (·.1))
      rw [List.length_map] at this
      simp only [h2, Rows.uptoBulk]
      omega
    have each : ∀ i, i < len → ∃ z : Int, ∃ cs, W.cells? 0 (ad.add (i * 1)) 1 = some cs ∧ cs = [.int .i64 z] := by
      intro i hi
      have h1 := hel i hi
      rw [List.getElem?_eq_getElem (by omega)] at h1
      cases hc : W.cells? 0 (ad.add (i * 1)) 1 with
      | none => rw [hc] at h1; cases h1
      | some cs =>
        rw [hc] at h1
        obtain ⟨z, e1, _, _⟩ := DataW.trod_int Try.underlying3 h1
        exact ⟨z, cs, rfl, e1⟩
    obtain ⟨ll, hll, hp⟩ := list_of_each len each
    refine ⟨some ad, len, c, ll, rfl, ⟨hll.symm, fun i hi => ?_⟩, hlc, hcm, hb2⟩
    obtain ⟨cs, h1, e⟩ := hp i hi
    obtain ⟨b, off, spot⟩ := ad
    have hspot : spot = none := by
      obtain ⟨cs0, h10, h20⟩ := hp 0 (by omega)
      obtain ⟨_, _, h30⟩ := World.cells?_some h10
      have := h30 0 (by omega)
      rw [h20] at this
      simpa [Addr.add] using World.cell?_spot this
    subst hspot
    refine ⟨b, off, rfl, ?_⟩
    rw [addr_add, Nat.mul_one] at h1
    obtain ⟨_, _, h3⟩ := World.cells?_some h1
    subst e
    have k0 := h3 0 (by omega)
    rw [addr_add] at k0
    exact k0
/-- A step's cells, and its path. -/
structure StAt (w : World) (b o : Nat) (x : St) (pa : Option Addr) (pn pc : Nat) : Prop where
  kind : w.cell? ⟨b, o, none⟩ = some (.int .i64 x.sp.kind)
  path : w.cell? ⟨b, o + 1, none⟩ = some (.slice pa pn pc)
  at_ : w.cell? ⟨b, o + 2, none⟩ = some (.int .i64 x.sp.at_)
  many : w.cell? ⟨b, o + 3, none⟩ = some (.int .i64 x.sp.many)
  sym : w.cell? ⟨b, o + 4, none⟩ = some (.int .i64 x.sp.sym)
  ints : IntsAt w pa pn x.path
  few : pn ≤ 1048576
  fits : pn ≤ pc
  cap : pc ≤ maxLen
theorem StAt.below {w w' : World} {b o : Nat} {x : St} {pa : Option Addr} {pn pc : Nat} (h : StAt w b o x pa pn pc) (hb : Below w.heap.size w w') : StAt w' b o x pa pn pc :=
  ⟨below_cell hb _ _ h.kind, below_cell hb _ _ h.path, below_cell hb _ _ h.at_, below_cell hb _ _ h.many, below_cell hb _ _ h.sym, h.ints.below hb, h.few, h.fits, h.cap⟩
/-- The slice with this address and length holds these steps. -/
structure StpsAt (w : World) (a : Option Addr) (n : Nat) (l : List St) : Prop where
  len : n = l.length
  few : n ≤ 1048576
  cells : ∀ i (h : i < l.length), ∃ b off pa pn pc, a = some ⟨b, off, none⟩ ∧ StAt w b (off + i * 5) l[i] pa pn pc
theorem StpsAt.below {w w' : World} {a : Option Addr} {n : Nat} {l : List St} (h : StpsAt w a n l) (hb : Below w.heap.size w w') : StpsAt w' a n l :=
  ⟨h.len, h.few, fun i hi => by obtain ⟨b, off, pa, pn, pc, e, hs⟩ := h.cells i hi; exact ⟨b, off, pa, pn, pc, e, hs.below hb⟩⟩
set_option maxRecDepth 100000 in
theorem stp_open {H : Type} {enc : TypeId × Value → H} {W : World} {fuel : Nat} {cl : List Value} {y : DataW H × List MemPlace} (hf : DataW.trod enc Try.prog W 0 (fun _ => true) true fuel 38 cl = some y) (hz : Rows.uptoBulk y.1 ≤ 1048576) :
    ∃ (s : St) (pa : Option Addr) (pn pc : Nat), cl = [.int .i64 s.sp.kind, .slice pa pn pc, .int .i64 s.sp.at_, .int .i64 s.sp.many, .int .i64 s.sp.sym] ∧ IntsAt W pa pn s.path ∧ pn ≤ 1048576 ∧ pn ≤ pc ∧ pc ≤ maxLen := by
  obtain ⟨xs, n, hfuel, hx, hl, hlen, hff⟩ := DataW.trod_struct Try.underlying38 hf
  rw [Try.cells38] at hl
  match xs, hlen, cl, hl with
  | [y0, y1, y2, y3, y4], _, [v0, v1, v2, v3, v4], _ =>
    have g0 := hff 0 _ rfl
    have g1 := hff 1 _ rfl
    have g2 := hff 2 _ rfl
    have g3 := hff 3 _ rfl
    have g4 := hff 4 _ rfl
    simp [Try.cells35, Try.cells36, Try.cells3] at g0 g1 g2 g3 g4
    have hd : Rows.uptoBulk y1.1 + 1 ≤ Rows.uptoBulk y.1 := by
      have := congrArg Prod.fst hx
      simp only at this
      rw [this]
      simp only [List.map_cons, List.map_nil, Rows.uptoBulk, Rows.uptoBulkAll]
      omega
    obtain ⟨k0, e0, _, _⟩ := DataW.trod_int Try.underlying35 g0
    obtain ⟨pa, pn, pc, ps, e1, hI, h1, h2, h3⟩ := ints_open g1
    obtain ⟨k2, e2, _, _⟩ := DataW.trod_int Try.underlying3 g2
    obtain ⟨k3, e3, _, _⟩ := DataW.trod_int Try.underlying3 g3
    obtain ⟨k4, e4, _, _⟩ := DataW.trod_int Try.underlying3 g4
    simp at e0 e2 e3 e4
    subst e0 e1 e2 e3 e4
    exact ⟨⟨ps, ⟨k0, k2, k3, k4⟩⟩, pa, pn, pc, rfl, hI, by omega, h1, h2⟩
set_option maxRecDepth 100000 in
theorem stps_open {H : Type} {enc : TypeId × Value → H} {W : World} {fuel : Nat} {v : Value} {y : DataW H × List MemPlace} (hf : DataW.trod enc Try.prog W 0 (fun _ => true) true fuel 27 [v] = some y) (hz : Rows.uptoBulk y.1 ≤ 1048576) :
    ∃ a n c l, v = .slice a n c ∧ StpsAt W a n l ∧ n ≤ c ∧ c ≤ maxLen := by
  rcases DataW.trod_slice Try.underlying27 hf with ⟨hcs, h2⟩ | ⟨ad, len, c, elems, rest, n', hn', hcs, h2, _, hlc, hcm, hlen2, hel, _, _⟩
  · simp at hcs
    subst hcs
    exact ⟨none, 0, 0, [], rfl, ⟨rfl, Nat.zero_le _, fun i h => absurd h (by simp)⟩, Nat.le_refl _, Nat.zero_le _⟩
  · simp at hcs
    subst hcs
    rw [Try.cells38] at hel
    have hb2 : Rows.uptoBulkAll (elems.map (·.1)) + 1 ≤ Rows.uptoBulk y.1 := by
      simp only [h2, Rows.uptoBulk]; omega
    have hb3 : elems.length ≤ Rows.uptoBulkAll (elems.map (·.1)) := by have := bulk_len (elems.map (·.1)); rwa [List.length_map] at this
    have each : ∀ i, i < len → ∃ s : St, ∃ pa pn pc cs, W.cells? 0 (ad.add (i * 5)) 5 = some cs ∧ cs = [.int .i64 s.sp.kind, .slice pa pn pc, .int .i64 s.sp.at_, .int .i64 s.sp.many, .int .i64 s.sp.sym] ∧ IntsAt W pa pn s.path ∧ pn ≤ 1048576 ∧ pn ≤ pc ∧ pc ≤ maxLen := by
      intro i hi
      have h1 := hel i hi
      have hie : i < elems.length := by omega
      rw [List.getElem?_eq_getElem hie] at h1
      cases hc : W.cells? 0 (ad.add (i * 5)) 5 with
      | none => rw [hc] at h1; cases h1
      | some cs =>
        rw [hc] at h1
        have := bulk_all (List.mem_map_of_mem (f := (·.1)) (List.getElem_mem hie))
        obtain ⟨s, pa, pn, pc, e, h3⟩ := stp_open h1 (by omega)
        exact ⟨s, pa, pn, pc, cs, rfl, e, h3⟩
    obtain ⟨ll, hll, hp⟩ := list_of_each len each
    refine ⟨some ad, len, c, ll, rfl, ⟨hll.symm, by omega, fun i hi => ?_⟩, hlc, hcm⟩
    obtain ⟨pa, pn, pc, cs, h1, e, hI, f1, f2, f3⟩ := hp i hi
    obtain ⟨b, off, spot⟩ := ad
    have hspot : spot = none := by
      obtain ⟨_, _, _, cs0, h10, h20, _⟩ := hp 0 (by omega)
      obtain ⟨_, _, h30⟩ := World.cells?_some h10
      have := h30 0 (by omega)
      rw [h20] at this
      simpa [Addr.add] using World.cell?_spot this
    subst hspot
    rw [addr_add] at h1
    obtain ⟨_, _, h3⟩ := World.cells?_some h1
    subst e
    have k0 := h3 0 (by omega)
    have k1 := h3 1 (by omega)
    have k2 := h3 2 (by omega)
    have k3 := h3 3 (by omega)
    have k4 := h3 4 (by omega)
    rw [addr_add] at k0 k1 k2 k3 k4
    exact ⟨b, off, pa, pn, pc, rfl, ⟨k0, k1, k2, k3, k4, hI, f1, f2, f3⟩⟩
set_option maxRecDepth 100000 in
/-- The law's argument. -/
theorem some_open {H : Type} {enc : TypeId × Value → H} {W : World} {r : Reach} {b0 : Nat} {v : Value} {dd : DataW H} {ps : List MemPlace} (hv : Value.okWide Try.prog W r b0 29 v)
    (h : DataW.Trod enc Try.prog W 0 (fun _ => true) true 29 v dd ps) (hz : Rows.uptoBulk dd ≤ 1048576) :
    ∃ (p : Option Addr) (n c : Nat) (l : List Sym) (A B : Tn) (a b : Option Addr) (ca cb : Nat) (la : Option Addr) (ln lc : Nat) (L : List St),
      v = .agg #[.slice p n c, .string A.1.1, .int .i64 A.1.2, .slice a (lenF A.2) ca, .string B.1.1, .int .i64 B.1.2, .slice b (lenF B.2) cb, .slice la ln lc] ∧ SigAt W p n l ∧ TmAt W A.1 a ca A.2 ∧ TmAt W B.1 b cb B.2 ∧ nodesF A.2 + nodesF B.2 + 2 ≤ 1048576 ∧ StpsAt W la ln L ∧ ln ≤ lc ∧ lc ≤ maxLen := by
  obtain ⟨cs, rfl, hsz⟩ := okWide_struct Try.underlying29 hv
  obtain ⟨fuel, hf⟩ := h
  obtain ⟨xs, n, hfuel, hx, hl, hlen, hff⟩ := DataW.trod_struct Try.underlying29 hf
  rw [Try.cells29] at hsz
  simp only [Value.cells] at hff hl
  obtain ⟨cl⟩ := cs
  match xs, hlen, cl, hsz with
  | [y0, y1, y2, y3], _, [v0, v1, v2, v3, v4, v5, v6, v7], _ =>
    have g0 := hff 0 _ rfl
    have g1 := hff 1 _ rfl
    have g2 := hff 2 _ rfl
    have g3 := hff 3 _ rfl
    simp [Try.cells23, Try.cells26, Try.cells27] at g0 g1 g2 g3
    have hd : Rows.uptoBulk y0.1 + Rows.uptoBulk y1.1 + Rows.uptoBulk y2.1 + Rows.uptoBulk y3.1 + 1 ≤ 1048576 := by
      have := congrArg Prod.fst hx
      simp only at this
      rw [this] at hz
      simp only [List.map_cons, List.map_nil, Rows.uptoBulk, Rows.uptoBulkAll] at hz
      omega
    obtain ⟨q0, ln0, cp0, l, e0, hS, _⟩ := sig_open g0
    subst e0
    obtain ⟨pa, a, c, la, ea, hA, na⟩ := term_open n _ _ g1 (.inr (by omega))
    obtain ⟨pb, b, d, lb, eb, hB, nb⟩ := term_open n _ _ g2 (.inr (by omega))
    obtain ⟨sa, sn, sc, L, es, hL, h1, h2⟩ := stps_open g3 (by omega)
    simp at ea eb
    obtain ⟨rfl, rfl, rfl⟩ := ea
    obtain ⟨rfl, rfl, rfl⟩ := eb
    subst es
    exact ⟨q0, ln0, cp0, l, (pa, la), (pb, lb), a, b, c, d, sa, sn, sc, L, rfl, hS, hA, hB, by show nodesF la + nodesF lb + 2 ≤ _; omega, hL, h1, h2⟩
end Go.Proofs.Ytokbgbbkopmngab
/- Play. -/
namespace Go.Proofs.Ytokbgbbkopmngab
open Go.RowKit Go.Deep

theorem results_cell_tmp2 {fn : Func} {p u v : Tmp} {ty : TypeId} (h : fn.results = #[.cell p ty, .tmp u, .tmp v]) (tmps : Array Value) (P : Program) (w : World) :
    (results fn tmps).run P w =
      ((asAddr (tmps.getD p undef)).run P w).andThen fun a w₁ => ((loadVar ty a).run P w₁).andThen fun x w₂ => .ok (.tuple #[x, tmps.getD u undef, tmps.getD v undef]) w₂ := by
  simp only [results, h]
  simp [Sem.run_bind, Result.andThen]
set_option maxRecDepth 100000 in
theorem ret_term2 {fn : Func} {R : Ending → World → Prop} {a : Act} {w : World} {p u v B : Nat} {cs : Array Value} (h : fn.results = #[.cell p 26, .tmp u, .tmp v]) (hp : a.tmps.getD p undef = .pointer (some ⟨B, 0, none⟩))
    (hx : Box w B 26 cs) (hcs : cs.size = 3) (hd : a.defers = []) (hR : R (.returned (.tuple #[.agg cs, a.tmps.getD u undef, a.tmps.getD v undef])) w) : bodyPost Try.prog fn R .ret a w := by
  refine bodyPost_ret ?_ hd hR
  rw [results_cell_tmp2 h, hp]
  rw [show (asAddr (.pointer (some ⟨B, 0, none⟩))).run Try.prog w = .ok ⟨B, 0, none⟩ w from rfl]
  simp only [Result.andThen_ok, run_loadVar_row w B 26 26 _ (0, 0) _ hx Try.underlying26 rfl (by rw [Try.size26, hcs])]

/-! ### a step in a box of one's own -/
abbrev tmC (t : Tn) (a : Option Addr) (c : Nat) : Array Value := #[.string t.1.1, .int .i64 t.1.2, .slice a (lenF t.2) c]
def WbEnd (W : World) (B N : Nat) (r : Option (Tn × Sp)) (e : Ending) (w2 : World) : Prop := match r with
  | none => e = .returned (.tuple #[stepV zSp none 0 0, .bool false]) ∧ Below W.heap.size W w2
  | some r => e = .returned (.tuple #[stepV r.2 none 0 0, .bool true]) ∧ ∃ a c, Box w2 B 26 (tmC r.1 a c) ∧ FulTm w2 (fun q => N ≤ q) r.1.1 a c r.1.2 ∧ Below 0 W w2 ∧ ∀ q, q < N → q ≠ B → w2.heap[q]? = W.heap[q]?
theorem within_box (S : Option Addr) (n cap B N : Nat) (L : List Sym) (t : Tn) (a : Option Addr) (c : Nat) (p : Sp) (ps : List Int) (pa : Option Addr) (pn pc : Nat) (W : World)
    (hS : SigAt W S n L) (hB : Box W B 26 (tmC t a c)) (hF : FulTm W (fun q => N ≤ q) t.1 a c t.2) (hBN : B < N) (hNW : N ≤ W.heap.size) (hn : nodesF t.2 ≤ 1048576) (hI : IntsAt W pa pn ps) (hpn : pn ≤ 9223372036854775807) :
    Calls Try.prog 15 #[.slice S n cap, .pointer (some ⟨B, 0, none⟩), stepV p pa pn pc] W (WbEnd W B N (stepT (sgOf L) t ps p)) := by
  obtain ⟨ks, hks, hPl⟩ := pl_of_ful hB hF (by omega)
  refine Calls.mono (within_any S n cap B 0 L (fun q => N ≤ q) t a c ks _ p ps pa pn pc W hS hPl hks hn hI hpn) ?_
  intro e w2 hE
  cases hr : stepT (sgOf L) t ps p with
  | none => rw [hr] at hE; exact hE
  | some r =>
    rw [hr] at hE
    obtain ⟨he, A', a2, c2, ks2, hk2, hU⟩ := hE
    obtain ⟨cur', z1, _, z3⟩ := hU.node
    have h3 : cur' = tmC r.1 a2 c2 := by
      have e0 := z3.c0; have e1 := z3.c1; have e2 := z3.c2
      rw [kv_len hk2] at e2
      apply Array.ext_getElem?
      intro k
      match k with
      | 0 => exact e0
      | 1 => exact e1
      | 2 => exact e2
      | k + 3 => rw [Array.getElem?_eq_none (by rw [z1]; simp), Array.getElem?_eq_none (by simp)]
    refine ⟨he, a2, c2, by have := z3.blk; rw [h3] at this; exact this, ?_, hU.low, fun q hq hne => hU.same q (by omega) (by omega) hne⟩
    refine (z3.row.tmL z3.nm hk2).mono (fun q hq => ?_)
    rcases hU.new q hq with h | h
    · exact h
    · omega

/-! ### several -/
def plT (r : Option Tn × Nat) : Tn := match r.1 with | some t => t | none => ((⟨#[]⟩, 0), .nil)
def plC (r : Option Tn × Nat) : Int := match r.1 with | some _ => 0 | none => 81
/-- What Play answers. -/
def PlayEnd (w : World) (r : Option Tn × Nat) (e : Ending) (w' : World) : Prop := ∃ a c, e = .returned (.tuple #[.agg (tmC (plT r) a c), .int .i64 (plC r), .int .i64 r.2]) ∧ FulTm w' (fun q => w.heap.size ≤ q) (plT r).1 a c (plT r).2 ∧ Below w.heap.size w w'
/-- Play's loop. -/
structure PySt (w : World) (S : Sg) (t : Tn) (Ls : List St) (j : Nat) (T : Tn) (a : Option Addr) (c : Nat) (W : World) : Prop where
  low : Below w.heap.size w W
  two : w.heap.size + 2 ≤ W.heap.size
  box : Box W w.heap.size 26 (tmC T a c)
  ful : FulTm W (fun q => w.heap.size + 2 ≤ q) T.1 a c T.2
  res : Box W (w.heap.size + 1) 26 (tmC ((⟨#[]⟩, 0), .nil) none 0)
  few : nodesF T.2 ≤ nodesF t.2 + 2 * j
  play : playN S T (Ls.drop j) j = playN S t Ls 0
theorem PySt.below {w : World} {S : Sg} {t : Tn} {Ls : List St} {j : Nat} {T : Tn} {a : Option Addr} {c : Nat} {W W' : World} (h : PySt w S t Ls j T a c W) (hb : Below W.heap.size W W') : PySt w S t Ls j T a c W' :=
  ⟨h.low.trans (hb.mono h.low.size), Nat.le_trans h.two hb.size, h.box.below hb, h.ful.below hb, h.res.below hb, h.few, h.play⟩
theorem play_step {S : Sg} {T : Tn} {Ls : List St} {j : Nat} (hj : j < Ls.length) {r : Tn × Sp} (h : stepT S T Ls[j].path Ls[j].sp = some r) : playN S T (Ls.drop j) j = playN S r.1 (Ls.drop (j + 1)) (j + 1) := by
  rw [List.drop_eq_getElem_cons hj]
  simp only [playN]
  rw [h]
theorem play_stop {S : Sg} {T : Tn} {Ls : List St} {j : Nat} (hj : j < Ls.length) (h : stepT S T Ls[j].path Ls[j].sp = none) : playN S T (Ls.drop j) j = (none, j) := by
  rw [List.drop_eq_getElem_cons hj]
  simp only [playN]
  rw [h]
theorem PySt.next {w : World} {S : Sg} {t : Tn} {Ls : List St} {j : Nat} {T : Tn} {a : Option Addr} {c : Nat} {W w2 : World} (h : PySt w S t Ls j T a c W) (hj : j < Ls.length) {r : Tn × Sp} (hr : stepT S T Ls[j].path Ls[j].sp = some r) {a2 : Option Addr} {c2 : Nat}
    (hB : Box w2 w.heap.size 26 (tmC r.1 a2 c2)) (hF : FulTm w2 (fun q => w.heap.size + 2 ≤ q) r.1.1 a2 c2 r.1.2) (hl : Below 0 W w2) (hs : ∀ q, q < w.heap.size + 2 → q ≠ w.heap.size → w2.heap[q]? = W.heap[q]?) : PySt w S t Ls (j + 1) r.1 a2 c2 w2 := by
  refine ⟨⟨hl.os.trans h.low.os, hl.tape.trans h.low.tape, hl.output.trans h.low.output, Nat.le_trans h.low.size hl.size, fun q hq => (hs q (by omega) (by omega)).trans (h.low.block q hq)⟩, Nat.le_trans h.two hl.size, hB, hF, (hs _ (by omega) (by omega)).trans h.res, ?_, ?_⟩
  · have h1 := stepT_nodes (t' := r.1) (q := r.2) hr
    have h2 := h.few
    unfold sizeT at h1
    omega
  · rw [← h.play]; exact (play_step hj hr).symm

set_option maxRecDepth 100000 in
set_option maxHeartbeats 4000000 in
theorem pplay_any (S : Option Addr) (n cap : Nat) (L : List Sym) (t : Tn) (a : Option Addr) (c : Nat) (la : Option Addr) (ln lc : Nat) (Ls : List St) (w : World)
    (hS : SigAt w S n L) (hT : TmAt w t.1 a c t.2) (hn : nodesF t.2 + 2 * ln ≤ 1048576) (hL : StpsAt w la ln Ls) :
    Calls Try.prog 9 #[.slice S n cap, .agg (tmC t a c), .slice la ln lc] w (PlayEnd w (playN (sgOf L) t Ls 0)) := by
  obtain ⟨r, hr⟩ : ∃ r, playN (sgOf L) t Ls 0 = r := ⟨_, rfl⟩
  rw [hr]
  obtain rfl := hL.len
  obtain ⟨W0, hW0⟩ : ∃ W0, (w.alloc (.cells #[.string t.1.1, .int .i64 t.1.2, .slice a (lenF t.2) c] 26)).alloc (.cells #[.string ⟨#[]⟩, .int .i64 0, .slice none 0 0] 26) = W0 := ⟨_, rfl⟩
  have hb0 : Below w.heap.size w W0 := by rw [← hW0]; exact (alloc_below0 w _).alloc (by simp) _
  have hsz : W0.heap.size = w.heap.size + 2 := by rw [← hW0]; simp
  have B0 : Box W0 w.heap.size 26 (tmC t a c) := by rw [← hW0]; exact (Box.new w 26 _).over _
  have B2 : Box W0 (w.heap.size + 1) 26 (tmC ((⟨#[]⟩, 0), .nil) none 0) := by rw [← hW0]; exact box_new (by rw [World.size_alloc]) 26 _
  have hC := cloneF_any t.1 t.2 a c W0 (hT.below hb0)
  have d0 := B0.v (k := 0) rfl; have d1 := B0.v (k := 1) rfl; have d2 := B0.v (k := 2) rfl
  have HB0 := hid hb0; have HSZ := hid hsz; have HX0 := hid B0; have HX2 := hid B2; have HS := hid hS; have HL := hid hL
  have HR := hid hr; have HN := hid hn
  clear hb0 hsz B0 B2 hS hT hL hr hn
  go_enter Try.func9, Try.ntmps9
  go_wp2_with fail
  clear hW0
  refine hC.mono ?_
  rintro e w1 ⟨a', c', rfl, hF1, hb1, _⟩
  have hsz0 := HSZ.out
  have hs1 := hb1.size
  have X0 := HX0.out.below hb1; have X2 := HX2.out.below hb1
  have x0 := X0.v (k := 0) rfl; have x1 := X0.v (k := 1) rfl; have x2 := X0.v (k := 2) rfl
  have xf0 := X0.f 0; have xf1 := X0.f 1; have xf2 := X0.f 2
  obtain ⟨W1, hW1⟩ : ∃ W1, ((w1.setCell ⟨w.heap.size, 0, none⟩ (.string t.1.1)).setCell ⟨w.heap.size, 1, none⟩ (.int .i64 t.1.2)).setCell ⟨w.heap.size, 2, none⟩ (.slice a' (lenF t.2) c') = W1 := ⟨_, rfl⟩
  have hFr : Fr (fun q => q = w.heap.size) w1 W1 := by rw [← hW1]; exact sets3_fr _ _ _
  have hsW : W1.heap.size = w1.heap.size := by rw [← hW1]; simp
  have Y0 : Box W1 w.heap.size 26 (tmC t a' c') := by rw [← hW1]; exact sets3_box X0 _ _ _
  have Y2 := X2.fr hFr (by omega)
  have hF2 : FulTm W1 (fun q => w.heap.size + 2 ≤ q) t.1 a' c' t.2 := (hF1.keep (fun q hq hlt => hFr.same q hlt (by omega))).mono (fun q hq => by omega)
  have hbW : Below w.heap.size w W1 := ((HB0.out.trans (hb1.mono HB0.out.size))).trans (hFr.below (fun k hk => by omega) (by omega))
  have hst : PySt w (sgOf L) t Ls 0 t a' c' W1 := ⟨hbW, by omega, Y0, hF2, Y2, by omega, by rw [List.drop_zero]⟩
  have HST := hid hst
  clear hC d0 d1 d2 hF1 hb1 X0 X2 hFr Y0 Y2 hF2 hbW hsW hsz0 hs1 hst
  go_wp2_with fail
  go_loopw [9, 10, 11, 12, 17] (fun _ _ _ _ ix wr => ∃ (j : Nat) (T : Tn) (ta : Option Addr) (tc : Nat), j ≤ Ls.length ∧ ix = .int .i64 j ∧ PySt w (sgOf L) t Ls j T ta tc wr) (fun _ _ _ _ ix _ => Ls.length - (intOf ix).toNat)
  case atStart => exact ⟨0, t, a', c', Nat.zero_le _, rfl, HST.out⟩
  case round =>
    obtain ⟨j, T, ta, tc, hj, rfl, hst⟩ := hrel
    have HST := hid hst
    have hlen := HL.out.few
    clear hW1 x0 x1 x2 xf0 xf1 xf2
    by_cases hlt : j < Ls.length
    · obtain ⟨sb, so, pa, pn, pc, rfl, hsa⟩ := HL.out.cells j hlt
      have hbwr := hst.low
      have hstr := hsa.below hbwr
      obtain ⟨sp, hsp⟩ : ∃ sp, Ls[j].sp = sp := ⟨_, rfl⟩
      obtain ⟨pth, hpth⟩ : ∃ pth, Ls[j].path = pth := ⟨_, rfl⟩
      have t0 := hstr.kind; have t1 := hstr.path; have t2 := hstr.at_; have t3 := hstr.many; have t4 := hstr.sym
      have hpI := hsa.ints
      rw [hsp] at t0 t2 t3 t4
      rw [hpth] at hpI
      have hpn := hsa.few
      have hj0 : (0 : Int) ≤ (j : Int) := by omega
      have hjn : (j : Int) < (Ls.length : Int) := by omega
      obtain ⟨V, hV⟩ : ∃ V, wr.alloc (.cells (stepC sp pa pn pc) 38) = V := ⟨_, rfl⟩
      have hbV : Below wr.heap.size wr V := by rw [← hV]; exact alloc_below0 _ _
      have P1 : Box V wr.heap.size 38 (stepC sp pa pn pc) := by rw [← hV]; exact Box.new _ _ _
      have hst2 := hst.below hbV
      obtain ⟨r1, hr1⟩ : ∃ r1, stepT (sgOf L) T pth sp = r1 := ⟨_, rfl⟩
      have hD := within_box S n cap w.heap.size (w.heap.size + 2) L T ta tc sp pth pa pn pc V (HS.out.below hst2.low) hst2.box hst2.ful (by omega) hst2.two (by have := hst2.few; have := HN.out; omega) (hpI.below hst2.low) (by omega)
      rw [hr1] at hD
      have HRE : Hid (stepT (sgOf L) T Ls[j].path Ls[j].sp = r1) := by show _ = _; rw [hsp, hpth]; exact hr1
      have HD := hid hD; have HST2 := hid hst2; have HLT := hid hlt
      have p0 := P1.v (k := 0) rfl; have p1 := P1.v (k := 1) rfl; have p2 := P1.v (k := 2) rfl; have p3 := P1.v (k := 3) rfl; have p4 := P1.v (k := 4) rfl
      clear hst hsa hbwr hstr hsp hpth hpI hpn hbV P1 hst2 hr1 hD
      cases r1 with
      | none =>
        go_wp2_with (first | (go_at_call 15; refine HD.out.mono ?_; rintro e w2 ⟨he, hb2⟩; have he' : e = .returned (.tuple #[stepV zSp none 0 0, .bool false]) := he; subst he'; have hb22 := alloc_below0 w2 (.cells #[.int .i64 0, .slice none 0 0, .int .i64 0, .int .i64 0, .int .i64 0] 38); have hst3 := (HST2.out.below hb2).below hb22; have z0 := hst3.res.v (k := 0) rfl; have z1 := hst3.res.v (k := 1) rfl; have z2 := hst3.res.v (k := 2) rfl; have f0 := hst3.res.f 0; have f1 := hst3.res.f 1; have f2 := hst3.res.f 2; have HST3 := hid hst3; clear hst3 hb22 hb2) | fail)
        refine ret_term2 rfl rfl (sets3_box HST3.out.res _ _ _) rfl rfl ?_
        have hrr : r = (none, j) := by rw [← HR.out, ← HST3.out.play]; exact play_stop HLT.out HRE.out
        subst hrr
        exact ⟨none, 0, rfl, ⟨⟨by show (0 : Nat) ≤ _; exact Nat.zero_le _, Nat.le_refl _, Nat.zero_le _, Nat.zero_le _⟩, .inl ⟨rfl, rfl, rfl⟩⟩, HST3.out.low.trans ((sets3_fr _ _ _).below (fun k hk => by omega) HST3.out.low.size)⟩
      | some r1 =>
        go_wp2_with (first | (go_at_call 15; refine HD.out.mono ?_; rintro e w2 ⟨he, a2, c2, hB2, hF2, hl2, hs2⟩; subst he; obtain ⟨V2, hV2⟩ : ∃ V2, w2.alloc (.cells (stepC r1.2 none 0 0) 38) = V2 := ⟨_, rfl⟩; have hb22 : Below w2.heap.size w2 V2 := (by rw [← hV2]; exact alloc_below0 _ _); have HST3 := hid ((HST2.out.next HLT.out HRE.out hB2 hF2 hl2 hs2).below hb22); clear hB2 hF2 hl2 hs2 hb22) | fail)
        go_roundw
        case rel => exact ⟨j + 1, r1.1, a2, c2, by have := HLT.out; omega, by go_num, HST3.out⟩
        case measure => simp [intOf]; omega
    · have hjn : ¬ (j : Int) < (Ls.length : Int) := by omega
      have x0 := hst.box.v (k := 0) rfl; have x1 := hst.box.v (k := 1) rfl; have x2 := hst.box.v (k := 2) rfl
      have z0 := hst.res.v (k := 0) rfl; have z1 := hst.res.v (k := 1) rfl; have z2 := hst.res.v (k := 2) rfl
      have f0 := hst.res.f 0; have f1 := hst.res.f 1; have f2 := hst.res.f 2
      have hrr : r = (some T, 0) := by
        rw [← HR.out, ← hst.play, List.drop_eq_nil_of_le (by omega)]; rfl
      subst hrr
      clear hst
      go_wp2_with fail
      refine ret_term2 rfl rfl (sets3_box HST.out.res _ _ _) rfl rfl ?_
      exact ⟨ta, tc, rfl, (HST.out.ful.keep (fun q hq hlt => (sets3_fr _ _ _).same q hlt (by omega))).mono (fun q hq => by omega), HST.out.low.trans ((sets3_fr _ _ _).below (fun k hk => by omega) HST.out.low.size)⟩
end Go.Proofs.Ytokbgbbkopmngab
/- A list of steps of one's own, a step put ahead of it. -/
namespace Go.Proofs.Ytokbgbbkopmngab
open Go.RowKit Go.Deep

structure Sv where
  sp : Sp
  path : List Int
  a : Option Addr
  n : Nat
  c : Nat
def Sv.st (x : Sv) : St := ⟨x.path, x.sp⟩
def svC (x : Sv) : List Value := [.int .i64 x.sp.kind, .slice x.a x.n x.c, .int .i64 x.sp.at_, .int .i64 x.sp.many, .int .i64 x.sp.sym]
def svAll : List Sv → List Value
  | [] => []
  | x :: r => svC x ++ svAll r
theorem svAll_len : ∀ l : List Sv, (svAll l).length = l.length * 5
  | [] => rfl
  | x :: r => by rw [svAll, List.length_append, svAll_len r, List.length_cons]; simp only [svC, List.length_cons, List.length_nil]; omega
theorem svAll_at : ∀ (l : List Sv) (i k : Nat) (hi : i < l.length), k < 5 → (svAll l)[i * 5 + k]? = (svC l[i])[k]?
  | x :: r, 0, k, _, hk => by
    rw [svAll, Nat.zero_mul, Nat.zero_add, List.getElem?_append_left (by simp only [svC, List.length_cons, List.length_nil]; omega)]
    rfl
  | x :: r, i + 1, k, hi, hk => by
    have hl : (svC x).length = 5 := rfl
    rw [svAll, List.getElem?_append_right (by rw [hl]; omega), hl, show (i + 1) * 5 + k - 5 = i * 5 + k by omega]
    simpa using svAll_at r i k (by simpa using hi) hk
theorem svAll_one (l : List Sv) : ∀ u ∈ svAll l, u.oneCell' = true := by
  induction l with
  | nil => intro u hu; cases hu
  | cons x r ih =>
    intro u hu
    rw [svAll, List.mem_append] at hu
    rcases hu with h | h
    · simp only [svC, List.mem_cons, List.not_mem_nil, or_false] at h
      rcases h with rfl | rfl | rfl | rfl | rfl <;> rfl
    · exact ih u h
/-- A step's path. -/
structure SvOk (w : World) (B : Nat) (x : Sv) : Prop where
  ints : IntsAt w x.a x.n x.path
  few : x.n ≤ 1048576
  fits : x.n ≤ x.c
  cap : x.c ≤ maxLen
  new : ∀ ad, x.a = some ad → B ≤ ad.block
/-- A list of steps of one's own, from block B on. -/
structure SvsAt (w : World) (B : Nat) (v : Value) (l : List Sv) : Prop where
  own : w.ownsRow B 38 5 v l.length (svAll l)
  all : ∀ x ∈ l, SvOk w B x
theorem owns_keep {w w' : World} {B T s k : Nat} {v : Value} {xs : List Value} (h : w.ownsRow B T s v k xs) (hk : ∀ q, B ≤ q → q < w.heap.size → w'.heap[q]? = w.heap[q]?) : w'.ownsRow B T s v k xs := by
  refine ⟨h.1, ?_⟩
  rcases h.2 with h1 | ⟨g, c, cur, h1, h2, h3, h4⟩
  · exact .inl h1
  · exact .inr ⟨g, c, cur, h1, h2, (hk g h2 (Array.getElem?_eq_some_iff.1 h3).1).trans h3, h4⟩
theorem SvsAt.keep {w w' : World} {B : Nat} {v : Value} {l : List Sv} (h : SvsAt w B v l) (hk : ∀ q, B ≤ q → q < w.heap.size → w'.heap[q]? = w.heap[q]?) : SvsAt w' B v l :=
  ⟨owns_keep h.own hk, fun x hx => by
    have o := h.all x hx
    refine ⟨⟨o.ints.len, fun i hi => ?_⟩, o.few, o.fits, o.cap, o.new⟩
    obtain ⟨b, off, e, hc⟩ := o.ints.cells i hi
    exact ⟨b, off, e, (World.cell?_of_block (hk b (o.new _ e) (World.block_lt_of_cell? w _ hc))).trans hc⟩⟩
theorem SvsAt.below {w w' : World} {B : Nat} {v : Value} {l : List Sv} (h : SvsAt w B v l) (hb : Below w.heap.size w w') : SvsAt w' B v l := h.keep (fun q _ hq => hb.block q hq)
theorem SvsAt.nil (w : World) (B : Nat) : SvsAt w B (.slice none 0 0) [] := ⟨⟨rfl, .inl ⟨rfl, rfl⟩⟩, fun x hx => by cases hx⟩
theorem SvsAt.slice {w : World} {B : Nat} {v : Value} {l : List Sv} (h : SvsAt w B v l) (hl : l.length ≤ 1048576) : ∃ a c, v = .slice a l.length c ∧ StpsAt w a l.length (l.map Sv.st) := by
  rcases h.own.2 with ⟨h1, h2⟩ | ⟨g, c, cur, h1, h2, h3, h4, h5, h6, h7⟩
  · have e : l = [] := List.length_eq_zero_iff.1 h2
    subst e
    exact ⟨none, 0, h1, ⟨rfl, Nat.zero_le _, fun i hi => absurd hi (by simp)⟩⟩
  · refine ⟨some ⟨g, 0, none⟩, c, h1, ⟨by rw [List.length_map], hl, fun i hi => ?_⟩⟩
    have hi' : i < l.length := by rwa [List.length_map] at hi
    have o := h.all l[i] (List.getElem_mem hi')
    have cell : ∀ k v, k < 5 → (svC l[i])[k]? = some v → w.cell? ⟨g, 0 + i * 5 + k, none⟩ = some v := fun k v hk hv => by
      refine cell_box h3 ?_
      have e1 := (svAll_at l i k hi' hk).trans hv
      rw [← h7, List.getElem?_take] at e1
      split at e1
      · rw [Array.getElem?_toList] at e1; rw [Nat.zero_add]; exact e1
      · cases e1
    refine ⟨g, 0, l[i].a, l[i].n, l[i].c, rfl, ?_⟩
    rw [List.getElem_map]
    exact ⟨cell 0 _ (by omega) rfl, cell 1 _ (by omega) rfl, cell 2 _ (by omega) rfl, cell 3 _ (by omega) rfl, cell 4 _ (by omega) rfl, o.ints, o.few, o.fits, o.cap⟩
theorem Try.info38b : (Try.prog.info? 38).map (fun i => (i.zero, i.size, i.bytes)) = some (some (.agg (stepC zSp none 0 0)), 5, 56) := by kernel_rfl
set_option maxRecDepth 100000 in
/-- A step ahead of a list. -/
theorem app_step {w : World} {B : Nat} {v : Value} {l : List Sv} (x : Sv) (h : SvsAt w B v l) (hx : SvOk w B x) (hl : l.length ≤ 1000) (hB : B ≤ w.heap.size) :
    ∃ v' w', (Builtin.append_ #[27, 27] 27 #[.slice (some ⟨w.heap.size, 0, none⟩) 1 1, v]).run Try.prog (w.alloc (.cells (stepC x.sp x.a x.n x.c) 38)) = .ok v' w' ∧ SvsAt w' B v' (x :: l) ∧ Below w.heap.size w w' := by
  obtain ⟨i0, hi0, hz0, hz1, hz2⟩ := info_parts Try.info38b
  obtain ⟨W, hW⟩ : ∃ W, w.alloc (.cells (stepC x.sp x.a x.n x.c) 38) = W := ⟨_, rfl⟩
  have b0 : Below w.heap.size w W := by rw [← hW]; exact alloc_below0 w _
  have hE : W.ownsRow B 38 5 (.slice (some ⟨w.heap.size, 0, none⟩) 1 1) 1 (svC x) := by rw [← hW]; exact ⟨rfl, .inr ⟨w.heap.size, 1, stepC x.sp x.a x.n x.c, rfl, hB, World.alloc_heap_new w _, Nat.le_refl _, by decide, rfl, rfl⟩⟩
  have h2 := h.below b0
  have fin : ∀ v' w', W.grownBy w' (Value.slice (some ⟨w.heap.size, 0, none⟩) 1 1).ownBlock → w'.ownsRow B 38 5 v' (1 + l.length) (svC x ++ svAll l) → SvsAt w' B v' (x :: l) ∧ Below w.heap.size w w' := fun v' w' hG hO => by
    have hb : Below w.heap.size w w' := below_grown b0 hG (fun k hk => by have h7 : some w.heap.size = some k := hk; have := Option.some.inj h7; omega)
    refine ⟨⟨by rw [List.length_cons, Nat.add_comm]; exact hO, fun y hy => ?_⟩, hb⟩
    have o : SvOk w B y := by
      rcases List.mem_cons.1 hy with rfl | hy
      · exact hx
      · exact h.all y hy
    exact ⟨o.ints.below hb, o.few, o.fits, o.cap, o.new⟩
  rw [hW]
  rcases h2.own.2 with ⟨h1, h3⟩ | ⟨g, c, cur, h1, h3, h4, h5, h6, h7, h8⟩
  · have e : l = [] := List.length_eq_zero_iff.1 h3
    subst e
    subst h1
    have : (Builtin.append_ #[27, 27] 27 #[.slice (some ⟨w.heap.size, 0, none⟩) 1 1, .slice none 0 0]).run Try.prog W = .ok (.slice (some ⟨w.heap.size, 0, none⟩) 1 1) W := by
      simp [Builtin.append_, run_underlying Try.underlying27, sizeOf, typeInfo, hi0, Builtin.lenOf, Builtin.firstCells, storeCells]
    exact ⟨_, _, this, fin _ _ ⟨rfl, rfl, rfl, Nat.le_refl _, fun _ _ _ => rfl⟩ (by simpa [svAll] using hE)⟩
  · subst h1
    obtain ⟨v', w1, hr1, hA1, hG1, _, _⟩ := run_append_own_at (P := Try.prog) W B 27 27 38 i0 _ 5 56 Try.underlying27 hi0 hz0 hz1 hz2 rfl (by decide) _ 1 _ hE ⟨g, 0, none⟩ l.length c (svAll l) (svAll_len l)
      (fun j u hu => by
        rw [Addr.add_lit]
        refine cell_box h4 ?_
        rw [← h8, List.getElem?_take] at hu
        split at hu
        · rw [Array.getElem?_toList] at hu; rw [Nat.zero_add]; exact hu
        · cases hu) (svAll_one l) (by unfold maxLen; omega) (by omega) (Nat.le_trans hB b0.size)
    exact ⟨v', w1, hr1, fin _ _ hG1 hA1⟩
end Go.Proofs.Ytokbgbbkopmngab
/- The walk of DeriveReturns. -/
namespace Go.Proofs.Ytokbgbbkopmngab
open Go.RowKit Go.Deep

/-- The law's argument, as its cells. -/
abbrev smC (p : Option Addr) (n c : Nat) (A B : Tn) (a b : Option Addr) (ca cb : Nat) (la : Option Addr) (ln lc : Nat) : Array Value :=
  #[.slice p n c, .string A.1.1, .int .i64 A.1.2, .slice a (lenF A.2) ca, .string B.1.1, .int .i64 B.1.2, .slice b (lenF B.2) cb, .slice la ln lc]
/-- What Returns' loop keeps. -/
structure RtSt (w : World) (Bt : Nat) (l : List Sym) (cs : Array Value) (A T : Tn) (a : Option Addr) (c : Nat) (v : Value) (bl : List Sv) (W : World) : Prop where
  box : Box W Bt 26 #[.string T.1.1, .int .i64 T.1.2, .slice a (lenF T.2) c]
  tm : TmAt W T.1 a c T.2
  right : rightB l T = true
  cln : Cln T.2
  few : nodesF T.2 ≤ 1048574
  few2 : nodesF T.2 + 2 * bl.length ≤ 1048576
  arg : Box W w.heap.size 29 cs
  low : Below w.heap.size w W
  svs : SvsAt W (Bt + 1) v bl
  plays : ∀ k, playN (sgOf l) T (bl.map Sv.st) k = (some A, 0)
theorem RtSt.below {w : World} {Bt : Nat} {l : List Sym} {cs : Array Value} {A T : Tn} {a : Option Addr} {c : Nat} {v : Value} {bl : List Sv} {W W' : World} (h : RtSt w Bt l cs A T a c v bl W) (hb : Below W.heap.size W W') : RtSt w Bt l cs A T a c v bl W' :=
  ⟨h.box.below hb, h.tm.below hb, h.right, h.cln, h.few, h.few2, h.arg.below hb, h.low.trans (hb.mono h.low.size), h.svs.below hb, h.plays⟩
theorem play_head {S : Sg} {y T A : Tn} {x : Sv} {bl : List Sv} {q' : Sp} (h : stepT S y x.path x.sp = some (T, q')) (hp : ∀ k, playN S T (bl.map Sv.st) k = (some A, 0)) : ∀ k, playN S y ((x :: bl).map Sv.st) k = (some A, 0) := by
  intro k
  rw [List.map_cons]
  simp only [playN, Sv.st]
  rw [h]
  exact hp (k + 1)

set_option maxRecDepth 100000 in
set_option maxHeartbeats 8000000 in
theorem returns_walk (p : Option Addr) (n c : Nat) (l : List Sym) (A B : Tn) (a b : Option Addr) (ca cb : Nat) (la : Option Addr) (ln lc : Nat) (Ls : List St) (w : World)
    (hS : SigAt w p n l) (hA : TmAt w A.1 a ca A.2) (hAc : Cln A.2) (hAn : nodesF A.2 ≤ 1048574) (hL : StpsAt w la ln Ls) (hlc : ln ≤ lc) :
    Calls Try.prog 3 #[.agg (smC p n c A B a b ca cb la ln lc)] w fun e w' => e = .returned (.bool true) ∧ Below w.heap.size w w' := by
  obtain ⟨W0, hW0⟩ : ∃ W0, w.alloc (.cells (smC p n c A B a b ca cb la ln lc) 29) = W0 := ⟨_, rfl⟩
  have hb0 : Below w.heap.size w W0 := by rw [← hW0]; exact alloc_below0 _ _
  have X0 : Box W0 w.heap.size 29 (smC p n c A B a b ca cb la ln lc) := by rw [← hW0]; exact Box.new _ _ _
  obtain rfl := hL.len
  have HS := hid hS; have HA := hid hA; have HAC := hid hAc; have HAN := hid hAn; have HL := hid hL; have HX0 := hid X0; have HB0 := hid hb0
  clear hS hA hAc hAn hL X0 hb0
  go_enter Try.func3, Try.ntmps3
  go_wp2_with fail
  clear hW0
  refine (head_any W0).mono ?_
  rintro e w1 ⟨rfl, hb1⟩
  have X1 := HX0.out.below hb1
  have hbw1 : Below w.heap.size w w1 := HB0.out.trans (hb1.mono HB0.out.size)
  have HX1 := hid X1; have HB1 := hid hbw1
  have c0 := X1.v (k := 0) rfl; have c1 := X1.v (k := 1) rfl; have c2 := X1.v (k := 2) rfl; have c3 := X1.v (k := 3) rfl
  clear X1 hb1 hbw1
  go_wp2_with fail
  refine (rright_any p n c l A a ca w1 (HS.out.below HB1.out) (HA.out.below HB1.out)).mono ?_
  rintro e w2 ⟨rfl, hb2⟩
  have X2 := HX1.out.below hb2
  have hbw2 : Below w.heap.size w w2 := HB1.out.trans (hb2.mono HB1.out.size)
  have HX2 := hid X2; have HB2 := hid hbw2
  clear c0 c1 c2 c3
  have c1 := X2.v (k := 1) rfl; have c2 := X2.v (k := 2) rfl; have c3 := X2.v (k := 3) rfl
  obtain ⟨rt, hrt⟩ : ∃ rt, rightB l A = rt := ⟨_, rfl⟩
  rw [hrt]
  clear X2 hb2 hbw2
  cases rt
  · clear hrt
    go_wp2
    go_ret
    exact ⟨rfl, HB2.out⟩
  · have HRT := hid hrt
    clear hrt
    obtain ⟨V, hV⟩ : ∃ V, w2.alloc (.cells #[.string A.1.1, .int .i64 A.1.2, .slice a (lenF A.2) ca] 26) = V := ⟨_, rfl⟩
    have hbV2 : Below w2.heap.size w2 V := by rw [← hV]; exact alloc_below0 _ _
    have hBt : Box V w2.heap.size 26 #[.string A.1.1, .int .i64 A.1.2, .slice a (lenF A.2) ca] := by rw [← hV]; exact Box.new _ _ _
    have hbV : Below w.heap.size w V := HB2.out.trans (hbV2.mono HB2.out.size)
    have hst0 : RtSt w w2.heap.size l (smC p n c A B a b ca cb la Ls.length lc) A A a ca (.slice none 0 0) [] V := ⟨hBt, HA.out.below hbV, HRT.out, HAC.out, HAN.out, by have := HAN.out; simp; omega, HX2.out.below hbV2, hbV, SvsAt.nil _ _, fun k => rfl⟩
    have HST := hid hst0
    have HBT : Hid (w.heap.size < w2.heap.size) := HX2.out.lt
    clear hbV2 hBt hbV hst0
    go_wp2_with fail
    clear c1 c2 c3 hV
    generalize w2.heap.size = Bt at HST HBT ⊢
    go_loopw [6, 7, 8, 9, 10, 11] (fun bk ix _ _ _ _ wr => ∃ (j : Nat) (T : Tn) (ta : Option Addr) (tc : Nat) (bl : List Sv), j ≤ Ls.length ∧ j ≤ 60 ∧ ix = .int .i64 j ∧ bl.length ≤ j ∧ RtSt w Bt l (smC p n c A B a b ca cb la Ls.length lc) A T ta tc bk bl wr) (fun _ ix _ _ _ _ _ => Ls.length - (intOf ix).toNat)
    case atStart => exact ⟨0, A, a, ca, [], Nat.zero_le _, Nat.zero_le _, rfl, Nat.zero_le _, HST.out⟩
    case round =>
      obtain ⟨j, T, ta, tc, bl, hj, hj6, rfl, hbl, hst⟩ := hrel
      have HST := hid hst
      have HBL := hid hbl
      have k7r := hst.arg.v (k := 7) rfl
      have hlen := HL.out.few
      clear hbl
      by_cases hltn : ¬ j < Ls.length
      · have hjn : ¬ (j : Int) < (Ls.length : Int) := by omega
        clear hst
        have hbk := HBL.out
        obtain ⟨ba, bc, hv, hSt⟩ := HST.out.svs.slice (by omega)
        have hv' : u6 = .slice ba bl.length bc := hv
        subst hv'
        have k0 := HST.out.arg.v (k := 0) rfl
        have x0 := HST.out.box.v (k := 0) rfl; have x1 := HST.out.box.v (k := 1) rfl; have x2 := HST.out.box.v (k := 2) rfl
        have hPl := pplay_any p n c l T ta tc ba bl.length bc (bl.map Sv.st) wr (HS.out.below HST.out.low) HST.out.tm (by have := HST.out.few2; omega) hSt
        rw [HST.out.plays 0] at hPl
        have HPL := hid hPl
        clear hPl hSt hv hbk
        go_wp2_with (first | (go_at_call 9; refine HPL.out.mono ?_; rintro e w6 ⟨a6, c6, he6, hF6, hb6⟩; have he6' : e = .returned (.tuple #[.agg #[.string A.1.1, .int .i64 A.1.2, .slice a6 (lenF A.2) c6], .int .i64 0, .int .i64 0]) := he6; subst he6'; obtain ⟨V6, hV6⟩ : ∃ V6, w6.alloc (.cells #[.string A.1.1, .int .i64 A.1.2, .slice a6 (lenF A.2) c6] 26) = V6 := ⟨_, rfl⟩; have hb66 : Below w6.heap.size w6 V6 := (by rw [← hV6]; exact alloc_below0 _ _); have Q6 : Box V6 w6.heap.size 26 #[.string A.1.1, .int .i64 A.1.2, .slice a6 (lenF A.2) c6] := (by rw [← hV6]; exact Box.new _ _ _); have hbw6 : Below wr.heap.size wr V6 := hb6.trans (hb66.mono hb6.size); have hbv6 : Below w.heap.size w V6 := HST.out.low.trans (hbw6.mono HST.out.low.size); have X6 := HST.out.arg.below hbw6; have i1 := X6.v (k := 1) rfl; have i2 := X6.v (k := 2) rfl; have i3 := X6.v (k := 3) rfl; have o0 := Q6.v (k := 0) rfl; have o1 := Q6.v (k := 1) rfl; have o2 := Q6.v (k := 2) rfl; have HEX := hid (exact_any A.1 A.2 a6 a c6 ca V6 ((show FulTm w6 (fun q => wr.heap.size ≤ q) A.1 a6 c6 A.2 from hF6).tm.below hb66) (HA.out.below hbv6)); have HB6 := hid hbv6; clear he6 hF6 hb6 hb66 Q6 hbw6 hbv6 X6) | (go_at_call 10; refine HEX.out.mono ?_; rintro e w7 ⟨rfl, hb7⟩; have HB7 := hid hb7; clear hb7) | fail)
        go_ret
        exact ⟨rfl, HB6.out.trans (HB7.out.mono HB6.out.size)⟩
      have hlt : j < Ls.length := Classical.not_not.1 hltn
      by_cases h60n : ¬ j < 60
      · have hjn : (j : Int) < (Ls.length : Int) := by omega
        have hj60 : ¬ (j : Int) < (60 : Int) := by omega
        clear hst
        have hbk := HBL.out
        obtain ⟨ba, bc, hv, hSt⟩ := HST.out.svs.slice (by omega)
        have hv' : u6 = .slice ba bl.length bc := hv
        subst hv'
        have k0 := HST.out.arg.v (k := 0) rfl
        have x0 := HST.out.box.v (k := 0) rfl; have x1 := HST.out.box.v (k := 1) rfl; have x2 := HST.out.box.v (k := 2) rfl
        have hPl := pplay_any p n c l T ta tc ba bl.length bc (bl.map Sv.st) wr (HS.out.below HST.out.low) HST.out.tm (by have := HST.out.few2; omega) hSt
        rw [HST.out.plays 0] at hPl
        have HPL := hid hPl
        clear hPl hSt hv hbk
        go_wp2_with (first | (go_at_call 9; refine HPL.out.mono ?_; rintro e w6 ⟨a6, c6, he6, hF6, hb6⟩; have he6' : e = .returned (.tuple #[.agg #[.string A.1.1, .int .i64 A.1.2, .slice a6 (lenF A.2) c6], .int .i64 0, .int .i64 0]) := he6; subst he6'; obtain ⟨V6, hV6⟩ : ∃ V6, w6.alloc (.cells #[.string A.1.1, .int .i64 A.1.2, .slice a6 (lenF A.2) c6] 26) = V6 := ⟨_, rfl⟩; have hb66 : Below w6.heap.size w6 V6 := (by rw [← hV6]; exact alloc_below0 _ _); have Q6 : Box V6 w6.heap.size 26 #[.string A.1.1, .int .i64 A.1.2, .slice a6 (lenF A.2) c6] := (by rw [← hV6]; exact Box.new _ _ _); have hbw6 : Below wr.heap.size wr V6 := hb6.trans (hb66.mono hb6.size); have hbv6 : Below w.heap.size w V6 := HST.out.low.trans (hbw6.mono HST.out.low.size); have X6 := HST.out.arg.below hbw6; have i1 := X6.v (k := 1) rfl; have i2 := X6.v (k := 2) rfl; have i3 := X6.v (k := 3) rfl; have o0 := Q6.v (k := 0) rfl; have o1 := Q6.v (k := 1) rfl; have o2 := Q6.v (k := 2) rfl; have HEX := hid (exact_any A.1 A.2 a6 a c6 ca V6 ((show FulTm w6 (fun q => wr.heap.size ≤ q) A.1 a6 c6 A.2 from hF6).tm.below hb66) (HA.out.below hbv6)); have HB6 := hid hbv6; clear he6 hF6 hb6 hb66 Q6 hbw6 hbv6 X6) | (go_at_call 10; refine HEX.out.mono ?_; rintro e w7 ⟨rfl, hb7⟩; have HB7 := hid hb7; clear hb7) | fail)
        go_ret
        exact ⟨rfl, HB6.out.trans (HB7.out.mono HB6.out.size)⟩
      · have h60 : j < 60 := Classical.not_not.1 h60n
        clear hltn h60n
        obtain ⟨sb, so, pa, pn, pc, rfl, hsa⟩ := HL.out.cells j hlt
        have hbwr := hst.low
        have hstr := hsa.below hbwr
        obtain ⟨sp, hsp⟩ : ∃ sp, Ls[j].sp = sp := ⟨_, rfl⟩
        obtain ⟨pth, hpth⟩ : ∃ pth, Ls[j].path = pth := ⟨_, rfl⟩
        have t0 := hstr.kind; have t1 := hstr.path; have t2 := hstr.at_; have t3 := hstr.many; have t4 := hstr.sym
        have hpI := hsa.ints
        rw [hsp] at t0 t2 t3 t4
        rw [hpth] at hpI
        have hpn := hsa.few
        have hj0 : (0 : Int) ≤ (j : Int) := by omega
        have hjn : (j : Int) < (Ls.length : Int) := by omega
        have hj60 : (j : Int) < (60 : Int) := by omega
        have HPI := hid hpI; have HPN := hid hpn
        have k0 := hst.arg.v (k := 0) rfl
        have x0 := hst.box.v (k := 0) rfl; have x1 := hst.box.v (k := 1) rfl; have x2 := hst.box.v (k := 2) rfl
        obtain ⟨r1, hr1⟩ : ∃ r1, stepT (sgOf l) T pth sp = r1 := ⟨_, rfl⟩
        obtain ⟨y, hy⟩ : ∃ y, ansN r1 = y := ⟨_, rfl⟩
        obtain ⟨ec, hec⟩ : ∃ ec, ansC r1 = ec := ⟨_, rfl⟩
        obtain ⟨bs, hbs⟩ : ∃ bs, ansSp r1 = bs := ⟨_, rfl⟩
        have HD1 : Hid (∀ W, Below wr.heap.size wr W → Calls Try.prog 6 #[.slice p n c, .agg #[.string T.1.1, .int .i64 T.1.2, .slice ta (lenF T.2) tc], stepV sp pa pn pc] W fun e w' => ∃ a' c', e = .returned (.tuple #[.agg #[.string y.1.1, .int .i64 y.1.2, .slice a' (lenF y.2) c'], .int .i64 ec]) ∧ FulTm w' (fun q => W.heap.size ≤ q) y.1 a' c' y.2 ∧ Below W.heap.size W w') := fun W hW => by
          have hbW : Below w.heap.size w W := HST.out.low.trans (hW.mono HST.out.low.size)
          have := pdo_any p n c l T ta tc sp pth pa pn pc W (HS.out.below hbW) (HST.out.tm.below hW) (by have := HST.out.few; omega) (HPI.out.below hbW) (by have := HPN.out; omega)
          rw [hr1] at this
          unfold DoEnd at this
          rw [hy, hec] at this
          exact this
        have HE1 : Hid (∀ W, Below wr.heap.size wr W → Calls Try.prog 8 #[.slice p n c, .agg #[.string T.1.1, .int .i64 T.1.2, .slice ta (lenF T.2) tc], stepV sp pa pn pc] W fun e w' => ∃ q m d, e = .returned (.tuple #[stepV bs q m d, .int .i64 ec]) ∧ (r1 ≠ none → IntsAt w' q m pth) ∧ m ≤ 1048576 ∧ m ≤ d ∧ d ≤ maxLen ∧ Below W.heap.size W w' ∧ ∀ ad, q = some ad → W.heap.size ≤ ad.block) := fun W hW => by
          have hbW : Below w.heap.size w W := HST.out.low.trans (hW.mono HST.out.low.size)
          have := pback_any p n c l T ta tc sp pth pa pn pc W (HS.out.below hbW) (HST.out.tm.below hW) (by have := HST.out.few; omega) (HPI.out.below hbW) HPN.out
          rw [hr1] at this
          unfold BackEnd at this
          rw [hbs, hec] at this
          exact this
        have HR1 := hid hr1; have HY := hid hy; have HEC := hid hec; have HBS := hid hbs; have HLT := hid hlt
        clear hsa hbwr hstr hsp hpth hpI hr1 hy hec hbs hst hpn
        go_wp2_with fail
        -- x, e := Do
        go_cut [8, 9] (fun x e w' => ∃ B a4 c4, x = .pointer (some ⟨B, 0, none⟩) ∧ e = .int .i64 ec ∧ wr.heap.size ≤ B ∧ Box w' B 26 #[.string y.1.1, .int .i64 y.1.2, .slice a4 (lenF y.2) c4] ∧ FulTm w' (fun q => wr.heap.size ≤ q) y.1 a4 c4 y.2 ∧ Below wr.heap.size wr w')
        case first =>
          go_region_held3 (fun w' => w'.cell? ⟨w.heap.size, 0, none⟩ = some (.slice p n c) ∧ w'.cell? ⟨w.heap.size, 7, none⟩ = some (.slice (some ⟨sb, so, none⟩) Ls.length lc) ∧ w'.cell? ⟨Bt, 0, none⟩ = some (.string T.1.1) ∧ w'.cell? ⟨Bt, 1, none⟩ = some (.int .i64 T.1.2) ∧ w'.cell? ⟨Bt, 2, none⟩ = some (.slice ta (lenF T.2) tc) ∧ w'.cell? ⟨sb, so + j * 5, none⟩ = some (.int .i64 sp.kind) ∧ w'.cell? ⟨sb, so + j * 5 + 1, none⟩ = some (.slice pa pn pc) ∧ w'.cell? ⟨sb, so + j * 5 + 2, none⟩ = some (.int .i64 sp.at_) ∧ w'.cell? ⟨sb, so + j * 5 + 3, none⟩ = some (.int .i64 sp.many) ∧ w'.cell? ⟨sb, so + j * 5 + 4, none⟩ = some (.int .i64 sp.sym)) ((first | (go_split_ands; refine ⟨?_, ?_, ?_, ?_, ?_, ?_, ?_, ?_, ?_, ?_⟩ <;> ((with_reducible refine below_cell HB4.out _ _ ?_); assumption)) | (have hqq := HX4.out; clear hqq; go_split_ands; refine ⟨?_, ?_, ?_, ?_, ?_, ?_, ?_, ?_, ?_, ?_⟩ <;> (refine below_cell (sets_below HB4.out (Nat.le_refl _) _ _ _) _ _ ?_; assumption)) | (go_split_ands; refine ⟨?_, ?_, ?_, ?_, ?_, ?_, ?_, ?_, ?_, ?_⟩ <;> (refine below_cell (HB4.out.alloc HB4.out.size _) _ _ ?_; assumption)) | (go_split_ands; refine ⟨?_, ?_, ?_, ?_, ?_, ?_, ?_, ?_, ?_, ?_⟩ <;> (refine below_cell ((Below.refl _ wr).alloc (Nat.le_refl _) _) _ _ ?_; assumption)) | go_keep | fail)) ((first | (go_at_call 6; (with_reducible refine Calls.mono (HD1.out (World.drew wr) (Below.refl _ wr).drew) ?_); rintro e w4 ⟨a4, c4, rfl, hF4, hb4⟩; have HF4 : Hid (FulTm w4 (fun q => wr.heap.size ≤ q) y.1 a4 c4 y.2) := hF4; have HB4 : Hid (Below wr.heap.size wr w4) := ((Below.refl _ wr).drew).trans hb4; clear hF4 hb4) | (go_at_call 6; refine (HD1.out (World.drew (World.alloc wr (.cells #[.string ⟨#[]⟩, .int .i64 0, .slice none 0 0] 26))) ((Below.refl _ wr).alloc (Nat.le_refl _) _).drew).mono ?_; rintro e w4 ⟨a4, c4, rfl, hF4, hb4⟩; have HF4 : Hid (FulTm w4 (fun q => wr.heap.size < q) y.1 a4 c4 y.2) := hF4.mono (fun q hq => by have hq : (World.drew (World.alloc wr (.cells #[.string ⟨#[]⟩, .int .i64 0, .slice none 0 0] 26))).heap.size ≤ q := hq; rw [show (World.drew (World.alloc wr (.cells #[.string ⟨#[]⟩, .int .i64 0, .slice none 0 0] 26))).heap.size = wr.heap.size + 1 from World.size_alloc _ _] at hq; omega); have HB4 : Hid (Below wr.heap.size wr w4) := (((Below.refl _ wr).alloc (Nat.le_refl _) _).drew).trans (hb4.mono (by show _ ≤ (wr.alloc _).heap.size; rw [World.size_alloc]; omega)); have HX4 : Hid (Box w4 wr.heap.size 26 #[.string ⟨#[]⟩, .int .i64 0, .slice none 0 0]) := Box.below (W := World.drew (World.alloc wr (.cells #[.string ⟨#[]⟩, .int .i64 0, .slice none 0 0] 26))) (Box.new wr 26 _) hb4; have z0 := HX4.out.v (k := 0) rfl; have z1 := HX4.out.v (k := 1) rfl; have z2 := HX4.out.v (k := 2) rfl; have zf0 := HX4.out.f 0; have zf1 := HX4.out.f 1; have zf2 := HX4.out.f 2; clear hF4 hb4) | fail))
          all_goals (go_wp2_with fail; go_meet)
          all_goals first
            | exact ⟨wr.heap.size, a4, c4, rfl, rfl, Nat.le_refl _, sets3_box HX4.out _ _ _, (HF4.out.keep (fun q hq _ => sets_far (by omega) _ _ _)).mono (fun q hq => by omega), sets_below HB4.out (Nat.le_refl _) _ _ _⟩
            | exact ⟨w4.heap.size, a4, c4, rfl, rfl, HB4.out.size, Box.new _ _ _, HF4.out.below (alloc_below0 _ _), HB4.out.alloc HB4.out.size _⟩
        case rest =>
          obtain ⟨B1, a4, c4, rfl, rfl, hlo1, hX1, hF1, hW1⟩ := hcut
          obtain ⟨V0, rfl⟩ : ∃ V0, V0 = wc := ⟨_, rfl⟩
          have HLO1 := hid hlo1; have HX1 := hid hX1; have HF1 := hid hF1; have HW1 := hid hW1
          have HBB : Hid (Bt < wr.heap.size) := HST.out.box.lt
          clear hlo1 hF1 hW1 HD1
          cases hrr : r1 with
          | none =>
            have e1 : ec = 81 := by rw [← HEC.out, hrr]; rfl
            subst e1
            clear hrr hX1
            go_wp2_with fail
            go_roundw
            case rel => exact ⟨j + 1, T, ta, tc, bl, by have := HLT.out; omega, by omega, by go_num, by have := HBL.out; omega, HST.out.below HW1.out⟩
            case measure => simp [intOf]; omega
          | some r =>
            have e1 : ec = 0 := by rw [← HEC.out, hrr]; rfl
            subst e1
            have hyr : y = r.1 := by rw [← HY.out, hrr]; rfl
            have hbr : bs = r.2 := by rw [← HBS.out, hrr]; rfl
            have hstp : stepT (sgOf l) T pth sp = some (y, bs) := by rw [HR1.out, hrr, hyr, hbr]
            obtain ⟨g1, g2, g3, q', g4⟩ := step_sound HST.out.right HST.out.cln hstp
            have G1 := hid g1; have G2 := hid g2; have G4 := hid g4
            have HNE : Hid (r1 ≠ none) := by show r1 ≠ none; rw [hrr]; simp
            obtain ⟨ov, hov⟩ : ∃ ov, decide (200 < nodesF y.2 + 1) = ov := ⟨_, rfl⟩
            have OV := over_any y.1 y.2 a4 c4 200 V0 HF1.out.tm (by omega)
            rw [hov] at OV
            have HOV := hid hov; have HOv := hid OV
            have b0 := hX1.v (k := 0) rfl; have b1 := hX1.v (k := 1) rfl; have b2 := hX1.v (k := 2) rfl
            clear hrr hX1 hyr hbr hstp g1 g2 g3 g4 hov OV
            cases ov
            case true =>
              go_wp2_with (first | (go_at_call 7; refine HOv.out.mono ?_; rintro e w10 ⟨rfl, hb10⟩; have HB10 := hid hb10; clear hb10) | fail)
              go_roundw
              case rel => exact ⟨j + 1, T, ta, tc, bl, by have := HLT.out; omega, by omega, by go_num, by have := HBL.out; omega, (HST.out.below HW1.out).below HB10.out⟩
              case measure => simp [intOf]; omega
            case false =>
              have HSM : Hid (nodesF y.2 ≤ 200) := by have := of_decide_eq_false HOV.out; show _ ≤ _; omega
              go_wp2_with (first | (go_at_call 7; refine HOv.out.mono ?_; rintro e w10 ⟨rfl, hb10⟩; have HB10 := hid hb10; clear hb10) | fail)
              have hW1' : Below wr.heap.size wr w10 := HW1.out.trans (HB10.out.mono HW1.out.size)
              have k0' := below_cell hW1' _ _ k0; have k7' := below_cell hW1' _ _ k7r
              have x0' := below_cell hW1' _ _ x0; have x1' := below_cell hW1' _ _ x1; have x2' := below_cell hW1' _ _ x2
              have t0' := below_cell hW1' _ _ t0; have t1' := below_cell hW1' _ _ t1; have t2' := below_cell hW1' _ _ t2; have t3' := below_cell hW1' _ _ t3; have t4' := below_cell hW1' _ _ t4
              have HX1' := hid (HX1.out.below HB10.out); have HF1' := hid (HF1.out.below HB10.out)
              clear HX1 HF1 HW1 HOv b0 b1 b2 k0 k7r x0 x1 x2 t0 t1 t2 t3 t4
              have HW1 := hid hW1'
              clear hW1'
              obtain ⟨V1, rfl⟩ : ∃ V1, V1 = w10 := ⟨_, rfl⟩
              -- b, f := Back
              go_cut [10, 11] (fun x e w' => ∃ B q5 m5 d5, x = .pointer (some ⟨B, 0, none⟩) ∧ e = .int .i64 0 ∧ Box w' B 38 (stepC bs q5 m5 d5) ∧ (r1 ≠ none → IntsAt w' q5 m5 pth) ∧ m5 ≤ 1048576 ∧ m5 ≤ d5 ∧ d5 ≤ maxLen ∧ (∀ ad, q5 = some ad → V1.heap.size ≤ ad.block) ∧ Below V1.heap.size V1 w')
              case first =>
                go_region_held3 (fun w' => w'.cell? ⟨w.heap.size, 0, none⟩ = some (.slice p n c) ∧ w'.cell? ⟨w.heap.size, 7, none⟩ = some (.slice (some ⟨sb, so, none⟩) Ls.length lc) ∧ w'.cell? ⟨Bt, 0, none⟩ = some (.string T.1.1) ∧ w'.cell? ⟨Bt, 1, none⟩ = some (.int .i64 T.1.2) ∧ w'.cell? ⟨Bt, 2, none⟩ = some (.slice ta (lenF T.2) tc) ∧ w'.cell? ⟨sb, so + j * 5, none⟩ = some (.int .i64 sp.kind) ∧ w'.cell? ⟨sb, so + j * 5 + 1, none⟩ = some (.slice pa pn pc) ∧ w'.cell? ⟨sb, so + j * 5 + 2, none⟩ = some (.int .i64 sp.at_) ∧ w'.cell? ⟨sb, so + j * 5 + 3, none⟩ = some (.int .i64 sp.many) ∧ w'.cell? ⟨sb, so + j * 5 + 4, none⟩ = some (.int .i64 sp.sym)) ((first | (go_split_ands; refine ⟨?_, ?_, ?_, ?_, ?_, ?_, ?_, ?_, ?_, ?_⟩ <;> ((with_reducible refine below_cell HB5.out _ _ ?_); assumption)) | (have hqq := HX5.out; clear hqq; go_split_ands; refine ⟨?_, ?_, ?_, ?_, ?_, ?_, ?_, ?_, ?_, ?_⟩ <;> (refine below_cell (sets5_below HB5.out (Nat.le_refl _) _ _ _ _ _) _ _ ?_; assumption)) | (go_split_ands; refine ⟨?_, ?_, ?_, ?_, ?_, ?_, ?_, ?_, ?_, ?_⟩ <;> (refine below_cell (HB5.out.alloc HB5.out.size _) _ _ ?_; assumption)) | (go_split_ands; refine ⟨?_, ?_, ?_, ?_, ?_, ?_, ?_, ?_, ?_, ?_⟩ <;> (refine below_cell ((Below.refl _ V1).alloc (Nat.le_refl _) _) _ _ ?_; assumption)) | go_keep | fail)) ((first | (go_at_call 8; (with_reducible refine Calls.mono (HE1.out (World.drew V1) HW1.out.drew) ?_); rintro e w5 ⟨q5, m5, d5, rfl, hI5, hm5, hd5, hx5, hb5, hl5⟩; have HI5 := hid hI5; have HM5 := hid hm5; have HD5 := hid hd5; have HX5' := hid hx5; have HL5 : Hid (∀ ad, q5 = some ad → V1.heap.size ≤ ad.block) := hl5; have HB5 : Hid (Below V1.heap.size V1 w5) := ((Below.refl _ V1).drew).trans hb5; clear hI5 hm5 hd5 hx5 hb5 hl5) | (go_at_call 8; refine (HE1.out (World.drew (World.alloc V1 (.cells #[.int .i64 0, .slice none 0 0, .int .i64 0, .int .i64 0, .int .i64 0] 38))) (HW1.out.alloc HW1.out.size _).drew).mono ?_; rintro e w5 ⟨q5, m5, d5, rfl, hI5, hm5, hd5, hx5, hb5, hl5⟩; have HI5 := hid hI5; have HM5 := hid hm5; have HD5 := hid hd5; have HX5' := hid hx5; have HL5 : Hid (∀ ad, q5 = some ad → V1.heap.size < ad.block) := (fun ad e => by have hq : (World.drew (World.alloc V1 (.cells #[.int .i64 0, .slice none 0 0, .int .i64 0, .int .i64 0, .int .i64 0] 38))).heap.size ≤ ad.block := hl5 ad e; rw [show (World.drew (World.alloc V1 (.cells #[.int .i64 0, .slice none 0 0, .int .i64 0, .int .i64 0, .int .i64 0] 38))).heap.size = V1.heap.size + 1 from World.size_alloc _ _] at hq; omega); have HB5 : Hid (Below V1.heap.size V1 w5) := (((Below.refl _ V1).alloc (Nat.le_refl _) _).drew).trans (hb5.mono (by show _ ≤ (V1.alloc _).heap.size; rw [World.size_alloc]; omega)); have HX5 : Hid (Box w5 V1.heap.size 38 (stepC zSp none 0 0)) := Box.below (W := World.drew (World.alloc V1 (.cells #[.int .i64 0, .slice none 0 0, .int .i64 0, .int .i64 0, .int .i64 0] 38))) (Box.new V1 38 _) hb5; have z0 := HX5.out.v (k := 0) rfl; have z1 := HX5.out.v (k := 1) rfl; have z2 := HX5.out.v (k := 2) rfl; have z3 := HX5.out.v (k := 3) rfl; have z4 := HX5.out.v (k := 4) rfl; have zf0 := HX5.out.f 0; have zf1 := HX5.out.f 1; have zf2 := HX5.out.f 2; have zf3 := HX5.out.f 3; have zf4 := HX5.out.f 4; clear hI5 hm5 hd5 hx5 hb5 hl5) | fail))
                all_goals (go_wp2_with fail; go_meet)
                all_goals first
                  | exact ⟨V1.heap.size, q5, m5, d5, rfl, rfl, sets5_box HX5.out _ _ _ _ _, fun h => (HI5.out h).keep (fun ad e => sets5_far (by have := HL5.out ad e; omega) _ _ _ _ _), HM5.out, HD5.out, HX5'.out, fun ad e => Nat.le_of_lt (HL5.out ad e), sets5_below HB5.out (Nat.le_refl _) _ _ _ _ _⟩
                  | exact ⟨w5.heap.size, q5, m5, d5, rfl, rfl, Box.new _ _ _, fun h => (HI5.out h).below (alloc_below0 _ _), HM5.out, HD5.out, HX5'.out, HL5.out, HB5.out.alloc HB5.out.size _⟩
              case rest =>
                obtain ⟨B2, q5, m5, d5, rfl, rfl, hX2, hI2, hm2, hd2, hx2, hl2, hW2⟩ := hcut
                obtain ⟨V2, rfl⟩ : ∃ V2, V2 = wc := ⟨_, rfl⟩
                have hb2 : Below wr.heap.size wr V2 := HW1.out.trans (hW2.mono HW1.out.size)
                have hst2 := HST.out.below hb2
                have hbBt : Bt + 1 ≤ V2.heap.size := by have := HBB.out; have := hb2.size; omega
                have hSV : SvOk V2 (Bt + 1) ⟨bs, pth, q5, m5, d5⟩ := ⟨hI2 HNE.out, hm2, hd2, hx2, fun ad e => by have h1 := hl2 ad e; have h2 := HBB.out; have h3 := HW1.out.size; omega⟩
                have hblj := HBL.out
                obtain ⟨v', w6, hr6, hS6, hb6⟩ := app_step ⟨bs, pth, q5, m5, d5⟩ hst2.svs hSV (by omega) hbBt
                obtain ⟨va, vc, hva, _⟩ := hS6.slice (by simp; omega)
                rw [List.length_cons] at hva
                subst hva
                have hXx := HX1'.out.below hW2
                have hXx6 := hXx.below hb6
                have hBt6 := hst2.box.below hb6
                have HX6 := hid hXx6; have HF6 := hid ((HF1'.out.below hW2).below hb6); have HBT6 := hid hBt6; have HS6 := hid hS6; have HST6 := hid (hst2.below hb6)
                have d0 := hX2.v (k := 0) rfl; have d1 := hX2.v (k := 1) rfl; have d2 := hX2.v (k := 2) rfl; have d3 := hX2.v (k := 3) rfl; have d4 := hX2.v (k := 4) rfl
                have b0 := hXx6.v (k := 0) rfl; have b1 := hXx6.v (k := 1) rfl; have b2 := hXx6.v (k := 2) rfl
                have e0 := hBt6.v (k := 0) rfl; have e1 := hBt6.v (k := 1) rfl; have e2 := hBt6.v (k := 2) rfl
                have f0 := hBt6.f 0; have f1 := hBt6.f 1; have f2 := hBt6.f 2
                clear hX2 hI2 hm2 hd2 hx2 hl2 hW2 hb2 hst2 hbBt hSV hS6 hb6 hXx hXx6 hBt6 k0' k7' x0' x1' x2' t0' t1' t2' t3' t4' hblj
                go_wp2_with (first
                  | (at_builtin; refine Lib.wpList_append_run _ rfl _ _ _ _ rfl _ _ rfl rfl _ _ hr6 ?_; clear hr6)
                  | fail)
                go_roundw
                case rel =>
                  refine ⟨j + 1, y, a4, c4, ⟨bs, pth, q5, m5, d5⟩ :: bl, by have := HLT.out; omega, by omega, by go_num, by have := HBL.out; simp; omega, ?_⟩
                  have hsm := HSM.out
                  have hbl := HBL.out
                  have hlo := HBB.out
                  refine ⟨sets3_box HBT6.out _ _ _, ((HF6.out).keep (fun q hq _ => sets_far (by have hq : wr.heap.size ≤ q := hq; omega) _ _ _)).tm, G1.out, G2.out, by omega, by simp; omega, HST6.out.arg.fr (sets3_fr _ _ _) (by have := HBT.out; omega), head_sets HST6.out.low (by have := HBT.out; omega) _ _ _, HS6.out.keep (fun q hq _ => sets_far (by omega) _ _ _), play_head G4.out HST.out.plays⟩
                case measure => simp [intOf]; omega
end Go.Proofs.Ytokbgbbkopmngab
namespace Go.Proofs.Ytokbgbbkopmngab
open Go.ChangeShapes Go.WideShapes Go.ChangeAt Go.RowKit Go.Deep

set_option maxRecDepth 100000 in
theorem deriveReturns_contract (H : Type) (enc : TypeId × Value → H) (W : World) (base : Nat) (args : Array Value) (ds gs : List (DataW H)) (before : List MemPlace)
    (hval : ∀ (j : Nat) t v, Try.f3.params[j]? = some t → args[j]? = some v → Value.okWide Try.prog W .any base t v)
    (hW : DataW.Whole enc Try.prog Try.f3.params.toList Rows.deriveReturnsSpec.vars false W args.toList ds gs before) (hk : Rows.uptoSmall H (ds ++ gs) = true) :
    Calls Try.prog 3 args W fun e W' => ∃ v, e = .returned v ∧ Rows.deriveReturnsSpec.post enc Try.prog Try.f3 false true false false W args v W' := by
  have hW' := hW
  obtain ⟨p, q, hA0, hV, rfl, hfz, hnd⟩ := hW
  have hA : DataW.TrodAll enc Try.prog W 0 (fun _ => true) true Try.f3.params.toList args.toList ds p := hA0
  rw [Try.params3] at hA hval
  obtain ⟨v0, vs0, d0, ds0, p0, q0, hargs, rfl, rfl, h0, r0⟩ := trodAll_cons hA
  obtain ⟨rfl, rfl, rfl⟩ := trodAll_nil r0
  obtain rfl : args = #[v0] := by cases args; simp_all
  obtain ⟨rfl, rfl⟩ := trodVars_none hV
  have lt0 : ∀ x ∈ p0, x.block < W.heap.size := by obtain ⟨m, hm⟩ := h0; exact DataW.trod_lt m _ _ _ hm
  have hbulk : Rows.uptoBulk d0 ≤ 1048576 := by
    have h : Rows.uptoBulkAll ([d0] ++ []) ≤ 1048576 := of_decide_eq_true hk
    simp only [List.append_nil, Rows.uptoBulkAll] at h
    omega
  obtain ⟨p, n, c, l, A, B, a, b, ca, cb, la, ln, lc, L, rfl, hS, hTA, hTB, hAB, hL, hlc, hlm⟩ := some_open (hval 0 29 v0 rfl rfl) h0 (by omega)
  clear hA0
  have hw := returns_walk p n c l (clT A) B a b ca cb la ln lc L W hS (clF_tm hTA) (cln_cl A.2) (by show nodesF (clF A.2) ≤ _; rw [clF_nodes]; omega) hL hlc
  unfold smC clT at hw
  simp only [clF_len] at hw
  refine hw.mono fun e W' ⟨he, bel⟩ => ?_
  subst he
  exact ⟨_, rfl, _, _, _, [], _, [], hW', trodAll_mk1 (shut_bool Try.underlying4 _), (trodAll_cons_mk (Below.trod laidOut (by kernel_rfl) (of_decide_eq_true (by kernel_rfl)) h0 bel lt0) trodAll_mk0), rfl, bel.frame _, fun h => by cases h⟩

set_option maxRecDepth 100000 in
theorem deriveReturns_lifted (os : Os) (started : os.Started) (H : Type) (enc : TypeId × Value → H) (F : Stop.Interp) :
    ReturnsInHanded {} Try.checked os 3 .any ((Rows.OpenSpec.upto Rows.deriveReturnsSpec).pre6 enc Try.prog Try.f3 Rows.deriveReturnsUptoRow.domain false) (((Rows.OpenSpec.upto Rows.deriveReturnsSpec).at F).post enc Try.prog Try.f3 false true false false) := by
  refine returnsInHanded_of_cond (C := Try.checked) (s := Rows.OpenSpec.upto Rows.deriveReturnsSpec) (k := Rows.uptoSmall) rfl own started (by kernel_rfl) Try.func3
    (OpenSpec.witness (enc := enc) (C := Try.checked) (s := Rows.OpenSpec.upto Rows.deriveReturnsSpec) (k := Rows.uptoSmall) rfl false ⟨#[], #[.agg #[.slice none 0 0, .string .empty, .int .i64 0, .slice none 0 0, .string .empty, .int .i64 0, .slice none 0 0, .slice none 0 0]], []⟩ 8 (by kernel_rfl) (by kernel_rfl) (by kernel_rfl)
      (x := ([.agg [.nil, .agg [.lit (.string []), .lit (.int .i64 0), .nil], .agg [.lit (.string []), .lit (.int .i64 0), .nil], .nil]], [], [])) (by kernel_rfl) rfl (by kernel_rfl)) ?_
  intro W base args ds gs before hval hW _ hk _
  exact deriveReturns_contract H enc W base args ds gs before hval hW hk

set_option maxRecDepth 100000 in
theorem deriveReturns_holds : Rows.DeriveReturnsUptoSaid :=
  OpenClaim.holds_of_cond 3 Try.f3 rfl rfl rfl rfl rfl rfl rfl ⟨rfl, rfl, rfl, rfl, rfl⟩ rfl rfl rfl rfl rfl (by kernel_rfl) Try.func3 (by kernel_rfl)
    (of_decide_eq_true (by kernel_rfl)) (by unfold Func.isWrapper; first | (rw [if_pos (by decide +kernel)]; kernel_rfl) | (rw [if_neg (by decide +kernel)]; exact ⟨rfl, rfl⟩))
    (fun os started H enc _ F => deriveReturns_lifted os started H enc F)
end Go.Proofs.Ytokbgbbkopmngab
