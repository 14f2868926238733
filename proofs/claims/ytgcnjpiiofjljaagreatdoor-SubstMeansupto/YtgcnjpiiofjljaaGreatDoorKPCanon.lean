import Derived.Deep.RegionHeld3
import Derived.Test.YtgcnjpiiofjljaaGreatDoorSFits
import Derived.Test.YtgcnjpiiofjljaaGreatDoorLater
import Derived.Test.YtgcnjpiiofjljaaGreatDoorTRChkB
import Derived.Test.YtgcnjpiiofjljaaGreatDoorTRClone
import Derived.Test.YtgcnjpiiofjljaaGreatDoorKPTog
/- What Canon, Is and Equal of package canon answer. -/
namespace Go.Proofs.YtgcnjpiiofjljaaGreatDoor
open Go.RowKit Go.Deep

/-- No greater than t, whatever t is; of a right one the canonical form. -/
def CanR (l : List Sym) (t r : Tn) : Prop := sizeT r ≤ sizeT t ∧ ((sgOf l).Ok (arAt l) → RightT (sgOf l) (arAt l) t → r = canonT (sgOf l) t)
theorem canR_of {l : List Sym} {t r r' : Tn} (h : LooseR (sgOf l) (arAt l) t r) (k : SetR (sgOf l) r r') : CanR l t r' :=
  ⟨by rw [set_size k]; exact h.1, fun hS hR => mod_set (canonT_can hS hR) (h.2 hS hR) k⟩

set_option maxRecDepth 100000 in
set_option maxHeartbeats 2000000 in
theorem pcanon_any (S : Option Addr) (n cap : Nat) (l : List Sym) (t : Tn) (a : Option Addr) (c : Nat) (w : World) (hS : SigAt w S n l) (hT : TmAt w t.1 a c t.2) (hk : nodesF t.2 ≤ 1048576) :
    Calls Tryz.prog 23 #[.slice S n cap, .agg #[.string t.1.1, .int .i64 t.1.2, .slice a (lenF t.2) c]] w fun e w' => ∃ k : Kv, e = .returned (.agg #[.string k.x.1, .int .i64 k.x.2, .slice k.a (lenF k.l) k.c]) ∧ CanR l t k.tn ∧ LoosE w' (fun q => w.heap.size ≤ q) k ∧ Below w.heap.size w w' := by
  obtain ⟨⟨nm, s⟩, F⟩ := t
  have HL : Hid (∀ W, Below w.heap.size w W → Calls Tryz.prog 40 #[.slice S n cap, .agg #[.string nm, .int .i64 s, .slice a (lenF F) c]] W fun e w' => ∃ k : Kv, e = .returned (.agg #[.string k.x.1, .int .i64 k.x.2, .slice k.a (lenF k.l) k.c]) ∧ LooseR (sgOf l) (arAt l) ((nm, s), F) k.tn ∧ LoosE w' (fun q => W.heap.size ≤ q) k ∧ Below W.heap.size W w') := fun W hW => loose_all S n cap l 1048576 (Nat.le_refl _) ((nm, s), F) a c W hk (hS.below hW) (TmAt.below hT hW)
  have HSE : Hid (∀ W k A, Below w.heap.size w W → LoosE W A k → Calls Tryz.prog 39 #[.slice S n cap, .agg #[.string k.x.1, .int .i64 k.x.2, .slice k.a (lenF k.l) k.c]] W fun e w' => ∃ F, e = .returned (.agg #[.string k.x.1, .int .i64 k.x.2, .slice k.a (lenF F) k.c]) ∧ lenF F = lenF k.l ∧ SetR (sgOf l) k.tn (k.x, F) ∧ LoosE w' A ⟨k.x, F, k.a, k.c⟩ ∧ Turned A W w') := fun W k A hW hE => settle_any S n cap l k A W (hS.below hW) hE
  have HB0 : Hid (Below w.heap.size w ((w.alloc (.cells #[.string nm, .int .i64 s, .slice a (lenF F) c] 27)).alloc (.cells #[.string ⟨#[]⟩, .int .i64 0, .slice none 0 0] 27))) := ((Below.refl _ w).alloc (Nat.le_refl _) _).alloc (by simp) _
  have HX0 : Hid (XBox ((w.alloc (.cells #[.string nm, .int .i64 s, .slice a (lenF F) c] 27)).alloc (.cells #[.string ⟨#[]⟩, .int .i64 0, .slice none 0 0] 27)) (w.heap.size + 1) (⟨#[]⟩, 0) (.slice none 0 0)) := by
    have := World.alloc_heap_new (w.alloc (.cells #[.string nm, .int .i64 s, .slice a (lenF F) c] 27)) (.cells #[.string ⟨#[]⟩, .int .i64 0, .slice none 0 0] 27)
    rw [World.size_alloc] at this
    exact this
  have HSZ0 : Hid (((w.alloc (.cells #[.string nm, .int .i64 s, .slice a (lenF F) c] 27)).alloc (.cells #[.string ⟨#[]⟩, .int .i64 0, .slice none 0 0] 27)).heap.size = w.heap.size + 2) := by show _ = _; simp
  clear hS hT
  go_enter Tryz.func23, Tryz.ntmps23
  go_wp2_with (first
    | (go_at_call 40; refine (HL.out _ HB0.out).mono ?_; rintro e w1 ⟨k, rfl, hr1, hE1, hb1⟩; have HR1 := hid hr1; have HE1 : Hid (LoosE w1 (fun q => w.heap.size + 2 ≤ q) k) := (by rw [HSZ0.out] at hE1; exact hE1); have HB1 := hid (HB0.out.trans (hb1.mono (by rw [HSZ0.out]; omega))); have HX1 := hid (HX0.out.below hb1); clear hr1 hE1 hb1)
    | (go_at_call 39; refine (HSE.out _ k _ HB1.out HE1.out).mono ?_; rintro e w2 ⟨F2, rfl, hF2, hs2, hE2, ht2⟩; have HF2 := hid hF2; have HS2 := hid hs2; have HE2 := hid hE2; have HT2 := hid ht2; have HX2 : XBox w2 (w.heap.size + 1) (⟨#[]⟩, 0) (.slice none 0 0) := (ht2.block _ HX1.out.lt (by omega)).trans HX1.out; have y0 := HX2.c0; have y1 := HX2.c1; have y2 := HX2.c2; have z0 := HX2.f (k := 0); have z1 := HX2.f (k := 1); have z2 := HX2.f (k := 2); have HXX := hid HX2; clear hF2 hs2 hE2 ht2 HX2)
    | fail)
  refine bodyPost_ret (results_cell_row rfl _ _ (w.heap.size + 1) 27 #[.string k.x.1, .int .i64 k.x.2, .slice k.a (lenF F2) k.c] (0, 0) _ rfl (HXX.out.all (x := k.x) _) Tryz.underlying27 rfl Tryz.size27) rfl ?_
  refine ⟨⟨k.x, F2, k.a, k.c⟩, rfl, canR_of HR1.out HS2.out, loosE.mono (fun q hq => by omega) (loosE.keep (fun q hq _ => sets_far (by omega) _ _ _) HE2.out), sets_below (HB1.out.trans (HT2.out.below (fun q hq => by omega) HB1.out.size)) (by omega) _ _ _⟩

end Go.Proofs.YtgcnjpiiofjljaaGreatDoor
/- A copy of terms into a fresh row. -/
namespace Go.Proofs.YtgcnjpiiofjljaaGreatDoor
open Go.RowKit Go.Deep Go.Shelf

/-- The cells of terms that lie side by side. -/
theorem kids_cells {w : World} : ∀ {F : Fo} {b o : Nat}, KidsAt w F b o → ∃ cs : List Value, cs.length = lenF F * 3 ∧ (∀ j v, cs[j]? = some v → w.cell? ⟨b, o + j, none⟩ = some v) ∧ ∀ v ∈ cs, v.oneCell' = true
  | .nil, _, _, _ => ⟨[], rfl, fun _ _ h => by simp at h, fun _ h => by simp at h⟩
  | .node _ _ x l r, b, o, h => by
    obtain ⟨⟨a, c, h0, h1, h2, _⟩, hr⟩ := h
    obtain ⟨cs, hl, hc, ho⟩ := kids_cells hr
    refine ⟨.string x.1 :: .int .i64 x.2 :: .slice a (lenF l) c :: cs, by simp [lenF, hl]; omega, fun j v hj => ?_, fun v hv => ?_⟩
    · match j with
      | 0 => simp at hj; subst hj; exact h0
      | 1 => simp at hj; subst hj; exact h1
      | 2 => simp at hj; subst hj; exact h2
      | j + 3 =>
        simp at hj
        have := hc j v hj
        rw [show o + (j + 3) = o + 3 + j by omega]
        exact this
    · simp only [List.mem_cons] at hv
      rcases hv with rfl | rfl | rfl | hv
      · rfl
      · rfl
      · rfl
      · exact ho v hv
theorem run_copyT (w : World) (ty : TypeId) (b o dLen dCap : Nat) (a : Addr) (sLen sCap : Nat) (cs : List Value) (hn : cs.length = (Nat.min sLen dLen) * 3) (hsrc : ∀ j v, cs[j]? = some v → w.cell? (a.add j) = some v)
    (hc : ∀ j, j < cs.length → (w.cell? ⟨b, o + j, none⟩).isSome = true) (hf : ∀ j, j < cs.length → w.frozen? ⟨b, o + j, none⟩ = false) (h1 : ∀ v ∈ cs, v.oneCell' = true) :
    (Builtin.copy_ #[25, 25] ty #[.slice (some ⟨b, o, none⟩) dLen dCap, .slice (some a) sLen sCap]).run Tryz.prog w = .ok (goInt (Nat.min sLen dLen)) (w.setCells b o cs) := by
  obtain ⟨i0, hi0, hz0, hz1, hz2⟩ := info_parts Tryz.info27
  have hl := run_loadCells_list (P := Tryz.prog) w a cs hsrc
  have hst := run_storeCells_cells (P := Tryz.prog) b o cs 0 w hc hf h1
  simp only [Nat.add_zero] at hst
  simp [Builtin.copy_, run_underlying Tryz.underlying25, Builtin.lenOf, Builtin.firstCells, sizeOf, typeInfo, hi0, hz1, ← hn, hl, hst]
/-- Terms in which others stand for variables. -/
def putF (lk : ByteArray → Option Tn) : Fo → Fo
  | .nil => .nil
  | .node B O x l r => match lkN lk x.1 with
    | some t => .node B O t.1 t.2 (putF lk r)
    | none => .node B O x (putF lk l) (putF lk r)
def putN (lk : ByteArray → Option Tn) (x : ByteArray × Int) (l : Fo) : Tn := match lkN lk x.1 with | some t => t | none => (x, putF lk l)
theorem putF_len (lk : ByteArray → Option Tn) : ∀ F : Fo, lenF (putF lk F) = lenF F
  | .nil => rfl
  | .node _ _ x l r => by
    unfold putF
    cases lkN lk x.1 with
    | none => simp only [lenF]; rw [putF_len lk r]
    | some t => simp only [lenF]; rw [putF_len lk r]
theorem putF_kids (lk : ByteArray → Option Tn) : ∀ F : Fo, kidsL (putF lk F) = (kidsL F).map fun y => putN lk y.1 y.2
  | .nil => rfl
  | .node _ _ x l r => by
    unfold putF putN
    cases h : lkN lk x.1 with
    | none => simp only [kidsL, List.map_cons, h]; rw [putF_kids lk r]; rfl
    | some t => simp only [kidsL, List.map_cons, h]; rw [putF_kids lk r]; rfl
end Go.Proofs.YtgcnjpiiofjljaaGreatDoor
/- Terms that are read in some blocks alone; put of a table. -/
namespace Go.Proofs.YtgcnjpiiofjljaaGreatDoor
open Go.RowKit Go.Deep Go.Shelf

/-- The maps of a world lie in another one. -/
def MapsIn (u w : World) : Prop := ∀ (b : Nat) es cl, u.heap[b]? = some (Obj.map es cl) → w.heap[b]? = some (Obj.map es cl)
theorem MapsIn.refl (w : World) : MapsIn w w := fun _ _ _ h => h
theorem MapsIn.below {u w w' : World} (h : MapsIn u w) (hb : Below w.heap.size w w') : MapsIn u w' := fun b es cl hh => by
  have h1 := h b es cl hh
  exact (hb.block b (Array.getElem?_eq_some_iff.1 h1).1).trans h1
theorem MapAt.inn {u w : World} {b n : Nat} {D : DataW Value} (h : MapAt u b n D) (hu : MapsIn u w) : MapAt w b n D := by
  obtain ⟨es, cl, h1, h2, h3, h4⟩ := h
  exact ⟨es, cl, hu b es cl h1, h2, h3, h4⟩
theorem tab_gen {u : World} {mv : Value} {lk : ByteArray → Option Tn} (h : TabV u mv lk) (s : ByteArray) (hs : s.size ≤ maxLen) :
    (lk s = none ∧ ∀ W, MapsIn u W → (Instr.lookup 54 mv (.string s) true).run Tryz.prog W = .ok (.tuple #[.agg #[.string ⟨#[]⟩, .int .i64 0, .slice none 0 0], .bool false]) W) ∨
    ∃ t a c, lk s = some t ∧ TmAt u t.1 a c t.2 ∧ ∀ W, MapsIn u W → (Instr.lookup 54 mv (.string s) true).run Tryz.prog W = .ok (.tuple #[.agg #[.string t.1.1, .int .i64 t.1.2, .slice a (lenF t.2) c], .bool true]) W := by
  rcases h with ⟨rfl, hn⟩ | ⟨b, n, rfl, ⟨D, hD, hl⟩⟩
  · exact .inl ⟨hn s, fun W _ => nil_run W s hs⟩
  · have h1 := hl s
    cases hk : lk s with
    | none =>
      rw [hk] at h1
      refine .inl ⟨rfl, fun W hb => ?_⟩
      have := look_run (hD.inn hb) s hs
      rw [show lookD D s = Option.none from h1] at this
      exact this
    | some t =>
      rw [hk] at h1
      obtain ⟨a, c, h2, h3⟩ := h1
      refine .inr ⟨t, a, c, rfl, h3, fun W hb => ?_⟩
      have := look_run (hD.inn hb) s hs
      rw [h2] at this
      exact this
set_option maxRecDepth 100000 in
set_option maxHeartbeats 1000000 in
theorem look_gen (mv : Value) (lk : ByteArray → Option Tn) (x : ByteArray × Int) (a : Option Addr) (n c : Nat) (u w : World) (hT : TabV u mv lk) (hu : MapsIn u w) (hs : x.1.size ≤ maxLen) :
    Calls Tryz.prog 41 #[mv, .agg #[.string x.1, .int .i64 x.2, .slice a n c]] w fun e w' => Below w.heap.size w w' ∧
      ((lkN lk x.1 = none ∧ e = .returned (.tuple #[.agg #[.string ⟨#[]⟩, .int .i64 0, .slice none 0 0], .bool false])) ∨ ∃ t a' c', lkN lk x.1 = some t ∧ TmAt u t.1 a' c' t.2 ∧ e = .returned (.tuple #[.agg #[.string t.1.1, .int .i64 t.1.2, .slice a' (lenF t.2) c'], .bool true])) := by
  have b1 := alloc_below0 w (.cells #[.string x.1, .int .i64 x.2, .slice a n c] 27)
  have b2 := alloc_below0 (w.alloc (.cells #[.string x.1, .int .i64 x.2, .slice a n c] 27)) (.cells #[.string ⟨#[]⟩, .int .i64 0, .slice none 0 0] 27)
  have n2 := World.alloc_heap_new (w.alloc (.cells #[.string x.1, .int .i64 x.2, .slice a n c] 27)) (.cells #[.string ⟨#[]⟩, .int .i64 0, .slice none 0 0] 27)
  have hB := b1.trans (b2.mono b1.size)
  rw [World.size_alloc] at n2
  have HB := hid hB; have HN2 := hid n2
  unfold lkN
  cases hnm : noName x.1 with
  | true =>
    have hnm' : x.1.toList.isEmpty = true := hnm
    clear b1 b2 hB n2
    go_enter Tryz.func41, Tryz.ntmps41
    go_wp2_with fail
    exact bodyPost_ret (results_ct rfl rfl (load27 (x := (⟨#[]⟩, 0)) HN2.out)) rfl ⟨HB.out, rfl⟩
  | false =>
    have hnm' : x.1.toList.isEmpty = false := hnm
    rcases tab_gen hT x.1 hs with ⟨hk, hr⟩ | ⟨t, a', c', hk, ht, hr⟩
    · have hrun := hr _ (hu.below hB)
      clear b1 b2 hB n2 hr
      go_enter Tryz.func41, Tryz.ntmps41
      go_wp2_with fail
      exact bodyPost_ret (results_ct rfl rfl (load27 (box2 w _ _ (⟨#[]⟩, 0) none 0 0))) rfl ⟨below3 _ _ _ _, rfl⟩
    · have hrun := hr _ (hu.below hB)
      clear b1 b2 hB n2 hr
      go_enter Tryz.func41, Tryz.ntmps41
      go_wp2_with fail
      exact bodyPost_ret (results_ct rfl rfl (load27 (box2 w _ _ t.1 a' (lenF t.2) c'))) rfl ⟨below3 _ _ _ _, a', c', ht, rfl⟩
/-- A world of which only some blocks can be read. -/
def onlyW (P : Nat → Prop) [DecidablePred P] (w : World) : World := { w with heap := w.heap.mapIdx fun i o => if P i then o else .cells #[] 0 }
theorem only_in {P : Nat → Prop} [DecidablePred P] {w : World} {b : Nat} (h : P b) : (onlyW P w).heap[b]? = w.heap[b]? := by
  unfold onlyW
  simp only [Array.getElem?_mapIdx]
  cases w.heap[b]? with
  | none => rfl
  | some o => simp [h]
theorem only_cell {P : Nat → Prop} [DecidablePred P] {w : World} {p : Addr} {v : Value} (h : (onlyW P w).cell? p = some v) : P p.block ∧ w.cell? p = some v := by
  by_cases hp : P p.block
  · refine ⟨hp, ?_⟩
    have e := only_in (w := w) hp
    simp only [World.cell?, e] at h ⊢
    exact h
  · have e : (onlyW P w).heap[p.block]? = (w.heap[p.block]?).map fun _ => Obj.cells #[] 0 := by
      unfold onlyW
      simp only [Array.getElem?_mapIdx]
      cases w.heap[p.block]? with
      | none => rfl
      | some o => simp [hp]
    simp only [World.cell?, e] at h
    cases hb : w.heap[p.block]? with
    | none => rw [hb] at h; simp at h
    | some o => rw [hb] at h; simp at h
theorem cell_only {P : Nat → Prop} [DecidablePred P] {w : World} {p : Addr} {v : Value} (hp : P p.block) (h : w.cell? p = some v) : (onlyW P w).cell? p = some v := by
  have e := only_in (w := w) hp
  simp only [World.cell?, e] at h ⊢
  exact h
theorem tm_only {P Q : Nat → Prop} [DecidablePred P] [DecidablePred Q] {w w' : World} {x : ByteArray × Int} {a : Option Addr} {c : Nat} {l : Fo} (h : TmAt (onlyW P w) x a c l) (hq : ∀ b, b < w.heap.size → P b → Q b ∧ w'.heap[b]? = w.heap[b]?) : TmAt (onlyW Q w') x a c l :=
  h.kept fun p v hv => by
    obtain ⟨h1, h2⟩ := only_cell hv
    obtain ⟨h3, h4⟩ := hq p.block (World.block_lt_of_cell? w p h2) h1
    refine cell_only h3 ?_
    simp only [World.cell?, h4] at h2 ⊢
    exact h2
theorem tm_whole {P : Nat → Prop} [DecidablePred P] {w : World} {x : ByteArray × Int} {a : Option Addr} {c : Nat} {l : Fo} (h : TmAt (onlyW P w) x a c l) : TmAt w x a c l := h.kept fun _ _ hv => (only_cell hv).2
theorem tm_in {w : World} {x : ByteArray × Int} {a : Option Addr} {c : Nat} {l : Fo} (h : TmAt w x a c l) : TmAt (onlyW (fun b => b < w.heap.size) w) x a c l := h.kept fun p _ hv => cell_only (World.block_lt_of_cell? w p hv) hv
theorem maps_only (P : Nat → Prop) [DecidablePred P] (w : World) : MapsIn (onlyW P w) w := fun b es cl h => by
  by_cases hp : P b
  · rw [only_in hp] at h; exact h
  · have e : (onlyW P w).heap[b]? = (w.heap[b]?).map fun _ => Obj.cells #[] 0 := by
      unfold onlyW
      simp only [Array.getElem?_mapIdx]
      cases w.heap[b]? with
      | none => rfl
      | some o => simp [hp]
    rw [e] at h
    cases hb : w.heap[b]? with
    | none => rw [hb] at h; cases h
    | some o => rw [hb] at h; simp at h
end Go.Proofs.YtgcnjpiiofjljaaGreatDoor
/- A row of terms, copied first, then filled one by one with others. -/
namespace Go.Proofs.YtgcnjpiiofjljaaGreatDoor
open Go.RowKit Go.Deep Go.Shelf

/-- A row, written over from a place on. -/
def ovr (cur : List Value) (o : Nat) (vs : List Value) : List Value := cur.take o ++ vs ++ cur.drop (o + vs.length)
theorem setCells_row {g : Nat} {t : TypeId} {fr : Nat × Nat} : ∀ (vs : List Value) (o : Nat) (W : World) (cur : Array Value), W.heap[g]? = some (.cells cur t fr) → o + vs.length ≤ cur.size → (W.setCells g o vs).heap[g]? = some (.cells (ovr cur.toList o vs).toArray t fr)
  | [], o, W, cur, h, _ => by
    show W.heap[g]? = _
    rw [h]
    unfold ovr
    simp
  | v :: r, o, W, cur, h, hl => by
    have h1 := block_set (k := o) h v
    have h2 := setCells_row r (o + 1) (W.setCell ⟨g, o, none⟩ v) _ h1 (by simp at hl ⊢; omega)
    rw [World.setCells]
    rw [h2]
    congr 3
    have hl' : o < cur.toList.length := by simp at hl ⊢; omega
    unfold ovr
    rw [Array.toList_setIfInBounds]
    have e1 : (cur.toList.set o v).take (o + 1) = cur.toList.take o ++ [v] := by
      rw [List.take_add_one, List.getElem?_set_self hl', List.take_set_of_le (Nat.le_refl _)]
      rfl
    have e2 : (cur.toList.set o v).drop (o + 1 + r.length) = cur.toList.drop (o + (v :: r).length) := by
      rw [List.drop_set_of_lt (by omega)]
      congr 1
      simp only [List.length_cons]
      omega
    rw [e1, e2]
    simp
theorem setCells_far {g q : Nat} (hq : q ≠ g) : ∀ (vs : List Value) (o : Nat) (W : World), (W.setCells g o vs).heap[q]? = W.heap[q]?
  | [], _, _ => rfl
  | v :: r, o, W => by
    rw [World.setCells, setCells_far hq r]
    exact Below.heap_setCell W _ _ q hq
theorem setCells_low {n0 : Nat} {w : World} {g : Nat} (hg : n0 ≤ g) : ∀ (vs : List Value) (o : Nat) (W : World), Below n0 w W → Below n0 w (W.setCells g o vs)
  | [], _, _, h => h
  | v :: r, o, W, h => by
    rw [World.setCells]
    exact setCells_low hg r (o + 1) _ (h.setCell (p := ⟨g, o, none⟩) hg v)
structure PRow (u : World) (M g n bb oo : Nat) (ks : List Kv) (W : World) : Prop where
  row : ∃ cur, W.heap[g]? = some (Obj.cells cur 27 (0, 0)) ∧ cur.size = n * 3 ∧ (∀ (i : Nat) (v : Value), (kvCells ks)[i]? = some v → cur[i]? = some v) ∧ ∀ (i : Nat) (v : Value), ks.length * 3 ≤ i → i < n * 3 → u.cell? ⟨bb, oo + i, none⟩ = some v → cur[i]? = some v
  tms : ∀ q ∈ ks, TmAt (onlyW (fun b => b < M ∨ g < b) W) q.x q.a q.c q.l
theorem PRow.cell {u : World} {M g n bb oo : Nat} {ks : List Kv} {W : World} (h : PRow u M g n bb oo ks W) {i : Nat} (hi : i < n * 3) : ∃ v, W.cell? ⟨g, i, none⟩ = some v := by
  obtain ⟨cur, h1, h2, _⟩ := h.row
  exact ⟨cur[i]'(by omega), by rw [cell_of_row W g i cur 27 (0, 0) h1]; simp [show i < cur.size by omega]⟩
theorem PRow.frozen {u : World} {M g n bb oo : Nat} {ks : List Kv} {W : World} (h : PRow u M g n bb oo ks W) (i : Nat) : W.frozen? ⟨g, i, none⟩ = false := by
  obtain ⟨cur, h1, _⟩ := h.row
  simp [World.frozen?, h1]
theorem PRow.rest {u : World} {M g n bb oo : Nat} {ks : List Kv} {W : World} (h : PRow u M g n bb oo ks W) {i : Nat} {v : Value} (h1 : ks.length * 3 ≤ i) (h2 : i < n * 3) (hv : u.cell? ⟨bb, oo + i, none⟩ = some v) : W.cell? ⟨g, i, none⟩ = some v := by
  obtain ⟨cur, e1, _, _, e4⟩ := h.row
  rw [cell_of_row W g i cur 27 (0, 0) e1]
  exact e4 i v h1 h2 hv
theorem PRow.lt {u : World} {M g n bb oo : Nat} {ks : List Kv} {W : World} (h : PRow u M g n bb oo ks W) : g < W.heap.size := by
  obtain ⟨cur, h1, _⟩ := h.row
  exact (Array.getElem?_eq_some_iff.1 h1).1
theorem PRow.below {u : World} {M g n bb oo : Nat} {ks : List Kv} {W W' : World} (h : PRow u M g n bb oo ks W) (hb : Below W.heap.size W W') : PRow u M g n bb oo ks W' := by
  obtain ⟨cur, h1, h2⟩ := h.row
  exact ⟨⟨cur, (hb.block _ h.lt).trans h1, h2⟩, fun q hq => tm_only (h.tms q hq) fun b hb' hP => ⟨hP, hb.block b hb'⟩⟩
theorem PRow.store {u : World} {M g n bb oo : Nat} {ks : List Kv} {kv : Kv} {W : World} (h : PRow u M g n bb oo ks W) (hk : TmAt (onlyW (fun b => b < M ∨ g < b) W) kv.x kv.a kv.c kv.l) (hlt : ks.length < n) (hM : M ≤ g) :
    PRow u M g n bb oo (ks ++ [kv]) (((W.setCell ⟨g, ks.length * 3, none⟩ (.string kv.x.1)).setCell ⟨g, ks.length * 3 + 1, none⟩ (.int .i64 kv.x.2)).setCell ⟨g, ks.length * 3 + 2, none⟩ (.slice kv.a (lenF kv.l) kv.c)) := by
  obtain ⟨cur, h1, h2, h3, h4⟩ := h.row
  have far : ∀ q, q ≠ g → (((W.setCell ⟨g, ks.length * 3, none⟩ (.string kv.x.1)).setCell ⟨g, ks.length * 3 + 1, none⟩ (.int .i64 kv.x.2)).setCell ⟨g, ks.length * 3 + 2, none⟩ (.slice kv.a (lenF kv.l) kv.c)).heap[q]? = W.heap[q]? := fun q hq => by
    rw [Below.heap_setCell _ _ _ q hq, Below.heap_setCell _ _ _ q hq, Below.heap_setCell _ _ _ q hq]
  refine ⟨⟨_, block_set (block_set (block_set h1 _) _) _, by simp [h2], ?_, ?_⟩, fun q hq => ?_⟩
  · intro i v hu
    rw [kvCells_snoc] at hu
    have hl := kvCells_len ks
    have hkl : kv.cells.length = 3 := rfl
    have hi : i < ks.length * 3 + 3 := by
      rcases Nat.lt_or_ge i (ks.length * 3 + 3) with h' | h'
      · exact h'
      · rw [List.getElem?_eq_none (by rw [List.length_append]; omega)] at hu; cases hu
    simp only [Array.getElem?_setIfInBounds, Array.size_setIfInBounds]
    by_cases hc : i < ks.length * 3
    · rw [List.getElem?_append_left (by omega)] at hu
      rw [if_neg (by omega), if_neg (by omega), if_neg (by omega)]
      exact h3 i v hu
    · rw [List.getElem?_append_right (by omega), hl] at hu
      have hcase : i = ks.length * 3 ∨ i = ks.length * 3 + 1 ∨ i = ks.length * 3 + 2 := by omega
      rcases hcase with e | e | e
      · subst e
        rw [if_neg (by omega), if_neg (by omega), if_pos rfl, if_pos (by omega)]
        simpa [Kv.cells] using hu
      · subst e
        rw [if_neg (by omega), if_pos rfl, if_pos (by omega)]
        rw [show ks.length * 3 + 1 - ks.length * 3 = 1 by omega] at hu
        simpa [Kv.cells] using hu
      · subst e
        rw [if_pos rfl, if_pos (by omega)]
        rw [show ks.length * 3 + 2 - ks.length * 3 = 2 by omega] at hu
        simpa [Kv.cells] using hu
  · intro i v hi hn hv
    simp only [List.length_append, List.length_cons, List.length_nil] at hi
    simp only [Array.getElem?_setIfInBounds, Array.size_setIfInBounds]
    rw [if_neg (by omega), if_neg (by omega), if_neg (by omega)]
    exact h4 i v (by omega) hn hv
  · have hq' : TmAt (onlyW (fun b => b < M ∨ g < b) W) q.x q.a q.c q.l := by
      rcases List.mem_append.1 hq with hq | hq
      · exact h.tms q hq
      · rw [List.mem_singleton.1 hq]; exact hk
    exact tm_only hq' fun b _ hP => ⟨hP, far b (by omega)⟩
theorem kidsAt_of {w : World} {b : Nat} : ∀ (F : Fo) (ks : List Kv) (o : Nat), ks.map (fun k => (k.x, k.l)) = kidsL F → (∀ j u, (kvCells ks)[j]? = some u → w.cell? ⟨b, o + j, none⟩ = some u) → (∀ k ∈ ks, TmAt w k.x k.a k.c k.l) → KidsAt w F b o
  | .nil, _, _, _, _, _ => trivial
  | .node _ _ x l r, [], o, h, _, _ => by simp [kidsL] at h
  | .node _ _ x l r, k :: ks, o, h, hc, ho => by
    simp only [List.map_cons, kidsL, List.cons.injEq, Prod.mk.injEq] at h
    obtain ⟨⟨rfl, rfl⟩, h⟩ := h
    have e : kvCells (k :: ks) = .string k.x.1 :: .int .i64 k.x.2 :: .slice k.a (lenF k.l) k.c :: kvCells ks := rfl
    rw [e] at hc
    have hk := ho k (by simp)
    refine ⟨⟨k.a, k.c, hc 0 _ rfl, hc 1 _ rfl, hc 2 _ rfl, hk.sizes, hk.args⟩, kidsAt_of r ks (o + 3) h (fun j u hu => ?_) (fun k' hk' => ho k' (by simp [hk']))⟩
    have := hc (j + 3) u (by simpa using hu)
    rw [show o + 3 + j = o + (j + 3) by omega]
    exact this
/-- The row is full. -/
theorem PRow.done {u : World} {M g n bb oo : Nat} {ks : List Kv} {W : World} (h : PRow u M g n bb oo ks W) {F : Fo} (hk : ks.map (fun k => (k.x, k.l)) = kidsL F) {Q : Nat → Prop} [DecidablePred Q] (hQ : ∀ b, (b < M ∨ g ≤ b) → Q b) : KidsAt (onlyW Q W) F g 0 := by
  obtain ⟨cur, h1, h2, h3, _⟩ := h.row
  refine kidsAt_of F ks 0 hk (fun j v hj => ?_) (fun q hq => tm_only (h.tms q hq) fun b _ hP => ⟨hQ b (by omega), rfl⟩)
  refine cell_only (hQ g (.inr (Nat.le_refl _))) ?_
  rw [Nat.zero_add, cell_of_row W g j cur 27 (0, 0) h1]
  exact h3 j v hj
end Go.Proofs.YtgcnjpiiofjljaaGreatDoor
/- put of a table. -/
namespace Go.Proofs.YtgcnjpiiofjljaaGreatDoor
open Go.RowKit Go.Deep Go.Shelf

theorem tab_only {P : Nat → Prop} [DecidablePred P] {w w' : World} {mv : Value} {lk : ByteArray → Option Tn} (h : TabV (onlyW P w) mv lk) (hq : ∀ b, b < w.heap.size → P b → w'.heap[b]? = w.heap[b]?) : TabV (onlyW P w') mv lk := by
  refine h.imp id fun ⟨b, n, h1, ⟨D, hD, hl⟩⟩ => ⟨b, n, h1, ⟨D, hD.inn fun b' es cl hh => ?_, fun s => ?_⟩⟩
  · have h2 := maps_only P w b' es cl hh
    have hP : P b' := Classical.byContradiction fun hp => by
      have e : (onlyW P w).heap[b']? = (w.heap[b']?).map fun _ => Obj.cells #[] 0 := by
        unfold onlyW
        simp only [Array.getElem?_mapIdx]
        cases w.heap[b']? with
        | none => rfl
        | some o => simp [hp]
      rw [e, h2] at hh
      simp at hh
    rw [only_in hP]
    exact (hq b' (Array.getElem?_eq_some_iff.1 h2).1 hP).trans h2
  · have h2 := hl s
    cases hs : lk s with
    | none => rw [hs] at h2; exact h2
    | some t =>
      rw [hs] at h2
      obtain ⟨a, c, h3, h4⟩ := h2
      exact ⟨a, c, h3, tm_only h4 fun b hb hP => ⟨hP, hq b hb hP⟩⟩
theorem far3 {W : World} {g q i : Nat} (h : q ≠ g) (a b c : Value) : (((W.setCell ⟨g, i, none⟩ a).setCell ⟨g, i + 1, none⟩ b).setCell ⟨g, i + 2, none⟩ c).heap[q]? = W.heap[q]? := by
  rw [Below.heap_setCell _ _ _ q h, Below.heap_setCell _ _ _ q h, Below.heap_setCell _ _ _ q h]
theorem run_copy0 (w : World) (ty : TypeId) (g c : Nat) (a : Option Addr) : (Builtin.copy_ #[25, 25] ty #[.slice (some ⟨g, 0, none⟩) 0 0, .slice a 0 c]).run Tryz.prog w = .ok (goInt 0) w := by
  obtain ⟨i0, hi0, _, _, _⟩ := info_parts Tryz.info27
  have hst : (storeCells ⟨g, 0, none⟩ []).run Tryz.prog w = .ok () w := run_storeCells_cells (P := Tryz.prog) g 0 [] 0 w (by simp) (by simp) (by simp)
  cases a with
  | none => simp [Builtin.copy_, run_underlying Tryz.underlying25, Builtin.lenOf, Builtin.firstCells, sizeOf, typeInfo, hi0, hst]
  | some p =>
    have hl : (loadCells p 0).run Tryz.prog w = .ok #[] w := run_loadCells_list (P := Tryz.prog) w p [] (by simp)
    simp [Builtin.copy_, run_underlying Tryz.underlying25, Builtin.lenOf, Builtin.firstCells, sizeOf, typeInfo, hi0, hl, hst]
def PutOk (lk : ByteArray → Option Tn) (k : Nat) : Prop := ∀ (x : ByteArray × Int) (l : Fo) (a : Option Addr) (c : Nat) (mv : Value) (M : Nat) (w : World), nodesF l ≤ k → M ≤ w.heap.size → TmAt (onlyW (fun b => b < M) w) x a c l → TabV (onlyW (fun b => b < M) w) mv lk →
  Calls Tryz.prog 24 #[mv, .agg #[.string x.1, .int .i64 x.2, .slice a (lenF l) c]] w fun e w' => ∃ a' c', e = .returned (.agg #[.string (putN lk x l).1.1, .int .i64 (putN lk x l).1.2, .slice a' (lenF (putN lk x l).2) c']) ∧ TmAt (onlyW (fun b => b < M ∨ w.heap.size ≤ b) w') (putN lk x l).1 a' c' (putN lk x l).2 ∧ Below w.heap.size w w'
set_option maxRecDepth 100000 in
set_option maxHeartbeats 2000000 in
theorem put_all (lk : ByteArray → Option Tn) : ∀ k, PutOk lk k := by
  intro k
  induction k using Nat.strongRecOn with
  | _ k ih =>
    intro x l a c mv M w hk hMw hT hM
    have HT := hid hT; have HM := hid hM
    have IH : Hid (∀ j, j < k → PutOk lk j) := ih
    obtain ⟨W0, hW0⟩ : ∃ W0, (w.alloc (.cells #[.string x.1, .int .i64 x.2, .slice a (lenF l) c] 27)).alloc (.cells #[.string ⟨#[]⟩, .int .i64 0, .slice none 0 0] 27) = W0 := ⟨_, rfl⟩
    have hb0 : Below w.heap.size w W0 := by rw [← hW0]; exact ((Below.refl _ w).alloc (Nat.le_refl _) _).alloc (by simp) _
    have b1 : XBox W0 w.heap.size x (.slice a (lenF l) c) := by rw [← hW0]; exact (Below.heap_alloc _ _ _ (by simp)).trans (World.alloc_heap_new w _)
    have b2 : XBox W0 (w.heap.size + 1) (⟨#[]⟩, 0) (.slice none 0 0) := by
      have := World.alloc_heap_new (w.alloc (.cells #[.string x.1, .int .i64 x.2, .slice a (lenF l) c] 27)) (.cells #[.string ⟨#[]⟩, .int .i64 0, .slice none 0 0] 27)
      rw [World.size_alloc] at this
      rw [← hW0]; exact this
    have hsz : W0.heap.size = w.heap.size + 2 := by rw [← hW0]; simp
    have HLK := hid (look_gen mv lk x a (lenF l) c (onlyW (fun b => b < M) w) W0 hM ((maps_only _ w).below hb0) hT.sizes.name)
    clear hT hM ih
    have z0 := b1.c0; have z1 := b1.c1; have z2 := b1.c2
    go_enter Tryz.func24, Tryz.ntmps24
    go_wp2_with fail
    clear hW0 z0 z1 z2
    refine HLK.out.mono ?_
    rintro e w1 ⟨hb1, hres⟩
    have HW1 := hid (hb0.trans (hb1.mono hb0.size))
    rcases hres with ⟨hk0, rfl⟩ | ⟨t, a', c', hk1, hT1, rfl⟩
    · have hp : putN lk x l = (x, putF lk l) := by unfold putN; rw [hk0]
      have HP := hid hp
      obtain ⟨i0, hi, hz0, hz1, hz2⟩ := info_parts Tryz.info27
      have bx := alloc_below0 w1 (.cells #[.string ⟨#[]⟩, .int .i64 0, .slice none 0 0] 27)
      have hVs : w1.heap.size < (w1.alloc (.cells #[.string ⟨#[]⟩, .int .i64 0, .slice none 0 0] 27)).heap.size := by simp
      have B1 := (b1.below hb1).below bx
      have B2 := (b2.below hb1).below bx
      have HL := hid (HW1.out.trans (bx.mono HW1.out.size))
      have HB1 := hid B1; have HB2 := hid B2
      have hfew := HT.out.sizes.few
      have hn1 := HT.out.sizes.len; have hn2 := HT.out.sizes.cap
      have hmax : maxLen = 9223372036854775807 := rfl
      have c2 := B1.c2
      clear HLK b1 b2 bx hb1 hb0 B1 B2 hp
      go_upto_region 4 with fail
      generalize w1.alloc (.cells #[.string ⟨#[]⟩, .int .i64 0, .slice none 0 0] 27) = V at HL HB1 HB2 c2 hVs ⊢
      by_cases h0 : lenF l = 0
      · have hl := len_nil h0
        subst hl
        have hcp := run_copy0 (ty := 3) (c := c) (a := a)
        go_upto_region 5 with (at_make; refine wpList_make_full _ rfl _ _ 25 rfl V.heap.size 27 i0 (.agg #[.string ⟨#[]⟩, .int .i64 0, .slice none 0 0]) 3 Tryz.underlying25 hi hz0 hz1 .i64 .i64 _ _ 0 rfl rfl rfl rfl (by rw [hz2]; omega) (by omega) (Nat.le_refl _) ?_; intro w0 hown0 hgrow0)
        have hbm : Below V.heap.size V w0 := (Below.refl _ _).grown hgrow0 (Nat.le_refl _) (fun k e => by cases e)
        have hc0 := hcp w0 V.heap.size
        have FX := hid (HB1.out.below hbm); have FY := hid (HB2.out.below hbm)
        have FL := hid (HL.out.trans (hbm.mono HL.out.size))
        have c2' := FX.out.c2
        have f2 := FX.out.f (k := 2)
        have X1 := FX.out.set (.slice (some ⟨V.heap.size, 0, none⟩) 0 0)
        have x0 := X1.c0; have x1 := X1.c1; have x2 := X1.c2
        have R1 := FY.out.other (p := ⟨w.heap.size, 2, none⟩) (by show w.heap.size + 1 ≠ w.heap.size; omega) (.slice (some ⟨V.heap.size, 0, none⟩) 0 0)
        have r0 := R1.c0; have r1 := R1.c1; have r2 := R1.c2
        have g0 := R1.f (k := 0); have g1 := R1.f (k := 1); have g2 := R1.f (k := 2)
        have HR1 := hid R1
        clear X1 R1 hcp hown0 hgrow0 hbm c2
        go_wp2_with fail
        go_loopw [28] (fun iv wr => iv = .int .i64 0 ∧ wr = w0) (fun _ _ => 0)
        case atStart => exact ⟨rfl, rfl⟩
        case round =>
          obtain ⟨rfl, rfl⟩ := hrel
          go_wp2_with fail
          refine bodyPost_ret (results_cell_row rfl _ _ (w.heap.size + 1) 27 #[.string x.1, .int .i64 x.2, .slice (some ⟨V.heap.size, 0, none⟩) 0 0] (0, 0) _ rfl (HR1.out.all (x := x) _) Tryz.underlying27 rfl Tryz.size27) rfl ?_
          rw [HP.out]
          exact ⟨some ⟨V.heap.size, 0, none⟩, 0, rfl, ⟨⟨HT.out.sizes.name, Nat.le_refl _, by omega, by simp [putF, lenF]⟩, .inl rfl⟩, sets_below (FL.out.setCell (p := ⟨w.heap.size, 2, none⟩) (Nat.le_refl _) _) (by omega) _ _ _⟩
      · obtain ⟨bb, oo, rfl, hkk⟩ := HT.out.args.get (by omega)
        have HKK := hid hkk
        go_upto_region 5 with (at_make; refine wpList_make_full _ rfl _ _ 25 rfl V.heap.size 27 i0 (.agg #[.string ⟨#[]⟩, .int .i64 0, .slice none 0 0]) 3 Tryz.underlying25 hi hz0 hz1 .i64 .i64 _ _ (lenF l) rfl rfl rfl rfl (by rw [hz2]; omega) (by omega) (Nat.le_refl _) ?_; intro w0 hown0 hgrow0)
        have hbm : Below V.heap.size V w0 := (Below.refl _ _).grown hgrow0 (Nat.le_refl _) (fun k e => by cases e)
        obtain ⟨cur, hcur, hcs⟩ : ∃ cur, w0.heap[V.heap.size]? = some (.cells cur 27 (0, 0)) ∧ cur.size = lenF l * 3 := by
          rcases hown0.2 with ⟨hv, _⟩ | ⟨g', cap', cur, hv, _, hh, _, _, hcs, _⟩
          · cases hv
          · cases hv
            exact ⟨cur, hh, hcs⟩
        have hL0 := HL.out.trans (hbm.mono HL.out.size)
        obtain ⟨cs, hcl, hcc, hco⟩ := kids_cells hkk
        have hcc0 : ∀ j v, cs[j]? = some v → w0.cell? ⟨bb, oo + j, none⟩ = some v := fun j v hj => bd_cell hL0 _ _ (only_cell (hcc j v hj)).2
        have hcp := run_copyT w0 3 V.heap.size 0 (lenF l) (lenF l) ⟨bb, oo, none⟩ (lenF l) c cs (by rw [hcl]; simp) (fun j v hj => by rw [Addr.add_lit]; exact hcc0 j v hj) (fun j hj => by rw [Nat.zero_add, cell_of_row w0 V.heap.size j cur 27 (0, 0) hcur]; simp; omega) (fun j hj => by simp [World.frozen?, hcur]) hco
        have c2' := (HB1.out.below hbm).c2
        have hrow := setCells_row cs 0 w0 cur hcur (by omega)
        have hov : ovr cur.toList 0 cs = cs := by
          unfold ovr
          rw [List.take_zero, List.nil_append, List.drop_eq_nil_of_le (by rw [Array.length_toList]; omega), List.append_nil]
        rw [hov] at hrow
        have P0 : PRow w M V.heap.size (lenF l) bb oo [] (w0.setCells V.heap.size 0 cs) := by
          refine ⟨⟨_, hrow, by simp [hcl], fun i v h => by simp [kvCells] at h, fun i v _ hi hv => ?_⟩, fun q hq => by simp at hq⟩
          have h1 : cs[i]? = some cs[i] := List.getElem?_eq_getElem (by omega)
          have h2 := (only_cell (hcc i _ h1)).2
          rw [h2] at hv
          simp only [List.getElem?_toArray]
          rw [h1]
          exact hv
        have hfar : ∀ q, q ≠ V.heap.size → (w0.setCells V.heap.size 0 cs).heap[q]? = w0.heap[q]? := fun q hq => setCells_far hq cs 0 w0
        have hwV : w.heap.size + 1 < V.heap.size := by
          have := (Array.getElem?_eq_some_iff.1 HB2.out).1
          exact this
        have X0 : XBox (w0.setCells V.heap.size 0 cs) w.heap.size x (.slice (some ⟨bb, oo, none⟩) (lenF l) c) := (hfar _ (by omega)).trans (HB1.out.below hbm)
        have Y0 : XBox (w0.setCells V.heap.size 0 cs) (w.heap.size + 1) (⟨#[]⟩, 0) (.slice none 0 0) := (hfar _ (by omega)).trans (HB2.out.below hbm)
        have L0 := setCells_low (g := V.heap.size) (by omega) cs 0 w0 hL0
        have HP0 := hid P0; have HX0 := hid X0; have HY0 := hid Y0; have HL0 := hid L0
        clear P0 X0 Y0 L0 hrow hov hfar hcc hcc0 hco hcl hcur hcs hbm hown0 hgrow0 hL0 hkk c2
        go_upto_region 6 with fail
        generalize w0.setCells V.heap.size 0 cs = W2 at HP0 HX0 HY0 HL0 ⊢
        clear hcp c2'
        generalize V.heap.size = g at HP0 hwV ⊢
        go_wp2_with fail
        go_loopw [28] (fun iv wr => ∃ (j : Nat) (ks : List Kv), j ≤ lenF l ∧ iv = .int .i64 j ∧ ks.length = j ∧ PRow w M g (lenF l) bb oo ks wr ∧ ks.map (fun q => (q.x, q.l)) = ((kidsL l).take j).map (fun y => putN lk y.1 y.2) ∧ XBox wr w.heap.size x (.slice (some ⟨bb, oo, none⟩) (lenF l) c) ∧ XBox wr (w.heap.size + 1) (⟨#[]⟩, 0) (.slice none 0 0) ∧ Below w.heap.size w wr) (fun iv _ => lenF l - (intOf iv).toNat)
        case atStart => exact ⟨0, [], Nat.zero_le _, rfl, rfl, HP0.out, by simp, HX0.out, HY0.out, HL0.out⟩
        case round =>
          obtain ⟨j, ks, hj, rfl, hkl, hP, hks, hX, hY, hlow⟩ := hrel
          have FP := hid hP; have FX := hid hX; have FY := hid hY; have FL := hid hlow; have FK := hid hks
          clear hP hX hY hlow hks
          by_cases hlt : j < lenF l
          · obtain ⟨y, a1, c1, l1, kd⟩ := HKK.out.kid (k := j) hlt
            have p0 := FP.out.rest (i := j * 3) (by omega) (by omega) (only_cell kd.name).2
            have p1 := FP.out.rest (i := j * 3 + 1) (by omega) (by omega) (only_cell kd.sym).2
            have p2 := FP.out.rest (i := j * 3 + 2) (by omega) (by omega) (only_cell kd.list).2
            have bx := alloc_below0 wr (.cells #[.string y.1, .int .i64 y.2, .slice a1 (lenF l1) c1] 27)
            have hsm : ∀ b, b < w.heap.size → (wr.alloc (.cells #[.string y.1, .int .i64 y.2, .slice a1 (lenF l1) c1] 27)).heap[b]? = w.heap[b]? := fun b hb => (bx.block b (Nat.lt_of_lt_of_le hb FL.out.size)).trans (FL.out.block b hb)
            have HC := hid (IH.out (nodesF l1) (by have := kd.less; omega) y l1 a1 c1 mv M (wr.alloc (.cells #[.string y.1, .int .i64 y.2, .slice a1 (lenF l1) c1] 27)) (Nat.le_refl _) (by have := FL.out.size; simp; omega) (tm_only kd.at_ fun b hb hP => ⟨hP, hsm b hb⟩) (tab_only HM.out fun b hb _ => hsm b hb))
            have KD := hid kd
            have BX := hid bx
            have hgl := FP.out.lt
            clear kd bx hsm
            go_wp2_with fail
            refine HC.out.mono ?_
            rintro e w2 ⟨a', c', rfl, hT2, hb2⟩
            have HW2 := hid (BX.out.trans (hb2.mono BX.out.size))
            have P2 := FP.out.below HW2.out
            have HP2 := hid P2
            obtain ⟨u0, v0⟩ := P2.cell (i := j * 3) (by omega)
            obtain ⟨u1, v1⟩ := P2.cell (i := j * 3 + 1) (by omega)
            obtain ⟨u2, v2⟩ := P2.cell (i := j * 3 + 2) (by omega)
            have f0 := P2.frozen (j * 3); have f1 := P2.frozen (j * 3 + 1); have f2 := P2.frozen (j * 3 + 2)
            have HT2 := hid (tm_only (Q := fun b => b < M ∨ g < b) (w' := w2) hT2 fun b _ hP => ⟨by simp only [World.size_alloc] at hP; omega, rfl⟩)
            clear P2 hb2 hT2 p0 p1 p2 HC
            go_wp2_with fail
            obtain ⟨B1', O1', sp⟩ := KD.out.split
            have hst := HP2.out.store (kv := ⟨(putN lk y l1).1, (putN lk y l1).2, a', c'⟩) HT2.out (by omega) (by omega)
            rw [hkl] at hst
            have hl2 := FL.out.trans (HW2.out.mono FL.out.size)
            refine ⟨⟨j + 1, ks ++ [⟨(putN lk y l1).1, (putN lk y l1).2, a', c'⟩], by omega, rfl, by simp [hkl], hst, ?_, (far3 (by omega) _ _ _).trans (FX.out.below HW2.out), (far3 (by omega) _ _ _).trans (FY.out.below HW2.out), ?_⟩, by simp [intOf]; omega⟩
            · rw [kids_take sp, List.map_append, List.map_append, FK.out]
              rfl
            · exact ((hl2.setCell (p := ⟨g, j * 3, none⟩) (by show w.heap.size ≤ g; omega) _).setCell (p := ⟨g, j * 3 + 1, none⟩) (by show w.heap.size ≤ g; omega) _).setCell (p := ⟨g, j * 3 + 2, none⟩) (by show w.heap.size ≤ g; omega) _
          · have e1 : j = lenF l := by omega
            have c2 := FX.out.c2
            have f2 := FX.out.f (k := 2)
            have X1 := FX.out.set (.slice (some ⟨g, 0, none⟩) (lenF l) (lenF l))
            have x0 := X1.c0; have x1 := X1.c1; have x2 := X1.c2
            have R1 := FY.out.other (p := ⟨w.heap.size, 2, none⟩) (by show w.heap.size + 1 ≠ w.heap.size; omega) (.slice (some ⟨g, 0, none⟩) (lenF l) (lenF l))
            have r0 := R1.c0; have r1 := R1.c1; have r2 := R1.c2
            have g0 := R1.f (k := 0); have g1 := R1.f (k := 1); have g2 := R1.f (k := 2)
            have HR1 := hid R1
            have hfull : ks.map (fun q => (q.x, q.l)) = kidsL (putF lk l) := by
              rw [FK.out, putF_kids, List.take_of_length_le (by rw [kids_len]; omega)]
            have HF := hid (FP.out.done (F := putF lk l) hfull (Q := fun b => b < M ∨ g ≤ b) (fun b h => h))
            clear X1 R1 hfull
            go_wp2_with fail
            refine bodyPost_ret (results_cell_row rfl _ _ (w.heap.size + 1) 27 #[.string x.1, .int .i64 x.2, .slice (some ⟨g, 0, none⟩) (lenF l) (lenF l)] (0, 0) _ rfl (HR1.out.all (x := x) _) Tryz.underlying27 rfl Tryz.size27) rfl ?_
            rw [HP.out]
            refine ⟨some ⟨g, 0, none⟩, lenF l, by rw [putF_len], ⟨⟨HT.out.sizes.name, by rw [putF_len]; exact Nat.le_refl _, by omega, by rw [putF_len]; exact hfew⟩, .inr ⟨g, 0, rfl, ?_⟩⟩, sets_below (FL.out.setCell (p := ⟨w.heap.size, 2, none⟩) (Nat.le_refl _) _) (by omega) _ _ _⟩
            refine HF.out.kept fun p v hv => ?_
            obtain ⟨q1, q2⟩ := only_cell hv
            have hsame := (sets_far (W := wr.setCell ⟨w.heap.size, 2, none⟩ (.slice (some ⟨g, 0, none⟩) (lenF l) (lenF l))) (B := w.heap.size + 1) (q := p.block) (by omega) (.string x.1) (.int .i64 x.2) (.slice (some ⟨g, 0, none⟩) (lenF l) (lenF l))).trans (Below.heap_setCell wr _ _ p.block (by show p.block ≠ w.heap.size; omega))
            refine cell_only (by omega) ?_
            simp only [World.cell?, hsame] at q2 ⊢
            exact q2
    · have hp : putN lk x l = t := by unfold putN; rw [hk1]
      have HP := hid hp
      have bx := alloc_below0 w1 (.cells #[.string t.1.1, .int .i64 t.1.2, .slice a' (lenF t.2) c'] 27)
      have R1 := (b2.below hb1).below bx
      have HL := hid (HW1.out.trans (bx.mono HW1.out.size))
      have HR1 := hid R1
      have r0 := R1.c0; have r1 := R1.c1; have r2 := R1.c2
      have g0 := R1.f (k := 0); have g1 := R1.f (k := 1); have g2 := R1.f (k := 2)
      have HT1 := hid hT1
      clear HLK b1 b2 R1 bx hb1 hb0 hsz hT1 hp
      go_wp2_with fail
      refine bodyPost_ret (results_cell_row rfl _ _ (w.heap.size + 1) 27 #[.string t.1.1, .int .i64 t.1.2, .slice a' (lenF t.2) c'] (0, 0) _ rfl (HR1.out.all (x := t.1) _) Tryz.underlying27 rfl Tryz.size27) rfl ?_
      rw [HP.out]
      refine ⟨a', c', rfl, tm_only HT1.out fun b hb hbM => ⟨.inl hbM, ?_⟩, sets_below HL.out (by omega) _ _ _⟩
      exact (sets_far (by omega) _ _ _).trans (HL.out.block b hb)
end Go.Proofs.YtgcnjpiiofjljaaGreatDoor
/- The program's Rename. -/
namespace Go.Proofs.YtgcnjpiiofjljaaGreatDoor
open Go.RowKit Go.Deep Go.Maps Go.Shelf

/-- What the table of names given puts in. -/
def lkG (l : List (ByteArray × ByteArray)) (s : ByteArray) : Option Tn := (asN l s).map fun y => ((y, 0), .nil)
/-- Names put in make no more nodes. -/
theorem putG_nodes (l : List (ByteArray × ByteArray)) : ∀ F : Fo, nodesF (putF (lkG l) F) ≤ nodesF F
  | .nil => Nat.le_refl _
  | .node B O x a r => by
    have h1 := putG_nodes l a
    have h2 := putG_nodes l r
    unfold putF
    cases h : lkN (lkG l) x.1 with
    | none => simp only [nodesF]; omega
    | some t =>
      have ht : t.2 = .nil := by
        unfold lkN lkG at h
        split at h
        · cases h
        · cases e : asN l x.1 with
          | none => rw [e] at h; cases h
          | some y => rw [e] at h; cases h; rfl
      simp only [nodesF, ht]; omega
theorem putG_nodesN (l : List (ByteArray × ByteArray)) (x : ByteArray × Int) (F : Fo) : nodesF (putN (lkG l) x F).2 ≤ nodesF F := by
  have h1 := putG_nodes l F
  unfold putN
  cases h : lkN (lkG l) x.1 with
  | none => exact h1
  | some t =>
    have ht : t.2 = .nil := by
      unfold lkN lkG at h
      split at h
      · cases h
      · cases e : asN l x.1 with
        | none => rw [e] at h; cases h
        | some y => rw [e] at h; cases h; rfl
    simp only [ht, nodesF]; omega
theorem leaf_at (W : World) (y : ByteArray) (h : y.size ≤ maxLen) : TmAt W (y, 0) none 0 .nil := ⟨⟨h, Nat.le_refl _, Nat.zero_le _, by simp [lenF]⟩, .inl rfl⟩
/-- The table of names given, as a table. -/
theorem GvAt.tab {W : World} {b : Nat} {l : List (ByteArray × ByteArray)} (h : GvAt W b l) (hs : ∀ p ∈ l, p.2.size ≤ maxLen) : TabV W (.map (some b)) (lkG l) := by
  obtain ⟨D, hD, hl⟩ := h.ex
  refine .inr ⟨b, _, rfl, ⟨D, hD, fun s => ?_⟩⟩
  have h1 := hl s
  unfold lkG
  cases e : asN l s with
  | none => rw [e] at h1; exact h1
  | some y =>
    rw [e] at h1
    have hy : y.size ≤ maxLen := by
      unfold asN at e
      cases hf : l.find? fun p => decide (p.1 = s) with
      | none => rw [hf] at e; cases e
      | some p =>
        rw [hf] at e
        cases e
        exact hs p (List.mem_of_find?_eq_some hf)
    exact ⟨none, 0, h1, leaf_at _ _ hy⟩
theorem nameP_size {keep : List ByteArray} {st : List (ByteArray × ByteArray) × Nat} (s : ByteArray) (h : ∀ p ∈ st.1, p.2.size ≤ maxLen) (hn : st.2 + keep.length < 18446744073709551616) : ∀ p ∈ (nameP keep nmB st s).1, p.2.size ≤ maxLen := by
  have hle := nxt_le keep nmB st.2
  unfold nameP
  split
  · exact h
  · intro p hp
    rcases List.mem_append.1 hp with h1 | h1
    · exact h p h1
    · rw [List.mem_singleton.1 h1]
      exact nm_size _ (by omega)
theorem fold_size (keep : List ByteArray) : ∀ (occ : List ByteArray) (st : List (ByteArray × ByteArray) × Nat), (∀ p ∈ st.1, p.2.size ≤ maxLen) → st.2 + occ.length * (keep.length + 1) < 18446744073709551616 → ∀ p ∈ (occ.foldl (nameP keep nmB) st).1, p.2.size ≤ maxLen
  | [], st, h, _ => h
  | s :: r, st, h, hn => by
    rw [List.foldl_cons]
    rw [List.length_cons, Nat.succ_mul] at hn
    have h1 := (nameP_len keep st s).2
    exact fold_size keep r _ (nameP_size s h (by omega)) (by omega)
theorem make_runN (W : World) : (Instr.makeMap 54 none).run Tryz.prog W = .ok (.map (some W.heap.size)) (W.alloc (.map #[] 0)) := by
  simp [Instr.makeMap, Result.andThen]
theorem GvAt.tabO {W : World} {b M : Nat} {l : List (ByteArray × ByteArray)} (h : GvAt W b l) (hs : ∀ p ∈ l, p.2.size ≤ maxLen) (hb : b < M) : TabV (onlyW (fun q => q < M) W) (.map (some b)) (lkG l) := by
  obtain ⟨D, ⟨es, cl, h1, h2, h3, h4⟩, hl⟩ := h.ex
  exact GvAt.tab ⟨D, ⟨es, cl, (only_in (P := fun q => q < M) hb).trans h1, h2, h3, h4⟩, hl⟩ hs
theorem FillB.base' {B B' n g : Nat} {W : World} {ks : List Bk} (h : FillB B n g W ks) (hB : B' ≤ B) : FillB B' n g W ks := ⟨owns_base h.row hB, h.gl.mono fun q hq => ⟨by omega, hq.2⟩, h.le⟩
/-- The number at the start. -/
def fst1 (f : Int) : Nat := (max f 1).toNat
/-- What each bind's term is met by. -/
def occB (ls : List Bn) : List ByteArray := ls.flatMap fun b => occs b.2
/-- What has been written down. -/
def Dn (sg : List Sym) (lk : ByteArray → Option Tn) (ls : List Bn) (ks : List Bk) : Prop := ∀ i (h : i < ls.length) (h' : i < ks.length), ks[i].1 = ls[i].1 ∧ CanR sg (putN lk ls[i].2.1 ls[i].2.2) ks[i].2.tn
theorem Dn.step {sg : List Sym} {lk : ByteArray → Option Tn} {ls : List Bn} {ks : List Bk} (h : Dn sg lk ls ks) (hlt : ks.length < ls.length) {y : Bk} {b : Bn} (hb : ls[ks.length] = b) (h1 : y.1 = b.1) (h2 : CanR sg (putN lk b.2.1 b.2.2) y.2.tn) : Dn sg lk ls (ks ++ [y]) := by
  intro i hi h'
  by_cases hin : i < ks.length
  · rw [List.getElem_append_left hin]; exact h i hi hin
  · obtain rfl : i = ks.length := by simp at h'; omega
    rw [List.getElem_append_right (Nat.le_refl _)]
    simp only [Nat.sub_self, List.getElem_cons_zero]
    rw [hb]
    exact ⟨h1, h2⟩
set_option maxRecDepth 100000 in
set_option maxHeartbeats 4000000 in
theorem prename_any (S : Option Addr) (sn cap : Nat) (sg : List Sym) (p : Option Addr) (bcap : Nat) (ls : List Bn) (pn : Option Addr) (cn : Nat) (keep : List ByteArray) (f : Int) (w : World)
    (inj : ∀ a b, nmB a = nmB b → a = b) (hstd : Std w) (hw0 : 0 < w.heap.size) (hS : SigAt w S sn sg) (hB : BindsAt w p ls.length ls) (hK : StrsAt w pn keep.length keep) (hf0 : -9223372036854775808 ≤ f) (hf : f ≤ 1099511627776) (hk : keep.length ≤ 1048576) (ho : (occB ls).length ≤ 2097152) (hl : ls.length ≤ 1048576) (hn : ∀ b ∈ ls, nodesF b.2.2 ≤ 1048576) :
    Calls Tryz.prog 7 #[.slice S sn cap, .slice p ls.length bcap, .slice pn keep.length cn, .int .i64 f] w fun e w' => ∃ (g : Nat) (ks : List Bk), e = .returned (.tuple #[.slice (some ⟨g, 0, none⟩) ls.length ls.length, .int .i64 (((occB ls).foldl (nameP keep nmB) ([], fst1 f)).2 : Nat)]) ∧ ks.length = ls.length ∧
      Dn sg (lkG ((occB ls).foldl (nameP keep nmB) ([], fst1 f)).1) ls ks ∧ SepB w.heap.size w' (.slice (some ⟨g, 0, none⟩) ls.length ls.length) ks ∧ Below w.heap.size w w' := by
  have HN : Hid (∀ W, Below w.heap.size w W → Calls Tryz.prog 21 #[.slice pn keep.length cn] W fun e w' => e = .returned (.map (some W.heap.size)) ∧ NmAt w' W.heap.size keep.length keep ∧ Below W.heap.size W w') := hid fun W hW => names_any pn cn keep W (hK.below hW) hk
  have HI := hid inj; have HS := hid hS; have HB := hid hB; have HST := hid hstd; have HO := hid ho; have HNN := hid hn
  have hmk := make_runN
  clear inj hS hB hK hstd ho hn
  go_enter Tryz.func7, Tryz.ntmps7
  go_upto_region 2 with (first
    | (go_at_call 21; refine (HN.out _ (Below.refl _ w)).mono ?_; rintro e w1 ⟨rfl, hk1, hb1⟩; have hmk1 := hmk w1; have HK1 := hid hk1; have HB1 := hid hb1; clear hk1 hb1)
    | fail)
  have hkb : w.heap.size < w1.heap.size := by
    obtain ⟨D, ⟨es, cl, h1, _⟩, _⟩ := HK1.out.ex
    exact (Array.getElem?_eq_some_iff.1 h1).1
  have e1 : max f 1 = ((fst1 f : Nat) : Int) := by unfold fst1; omega
  have hf1 : fst1 f ≤ 1099511627776 := by unfold fst1; omega
  rw [e1]
  obtain ⟨n0, hn0⟩ : ∃ n0, fst1 f = n0 := ⟨_, rfl⟩
  rw [hn0] at hf1 ⊢
  have HN0 : Hid (NSt w keep (w1.heap.size + 1) w.heap.size w1.heap.size [] n0 ((w1.alloc (.map #[] 0)).alloc (.cells #[.map (some w.heap.size), .map (some w1.heap.size), .int .u64 n0] 57))) := by
    have b1 := alloc_below0 w1 (.map #[] 0)
    have b2 := alloc_below0 (w1.alloc (.map #[] 0)) (.cells #[.map (some w.heap.size), .map (some w1.heap.size), .int .u64 n0] 57)
    have b3 := b1.trans (b2.mono b1.size)
    refine hid ⟨HB1.out.trans (b3.mono HB1.out.size), ?_, HK1.out.below b3, (GvAt.new w1).below b2, by omega, by omega, by omega⟩
    have := Box.new (w1.alloc (.map #[] 0)) 57 #[.map (some w.heap.size), .map (some w1.heap.size), .int .u64 n0]
    rw [World.size_alloc] at this
    exact this
  clear hmk1 HK1 HB1 HN e1 hmk
  generalize (w1.alloc (.map #[] 0)).alloc (.cells #[.map (some w.heap.size), .map (some w1.heap.size), .int .u64 n0] 57) = V0 at HN0 ⊢
  obtain ⟨N, hN⟩ : ∃ N, w1.heap.size + 1 = N := ⟨_, rfl⟩
  obtain ⟨gb, hgb⟩ : ∃ gb, w1.heap.size = gb := ⟨_, rfl⟩
  obtain ⟨kb, hkb'⟩ : ∃ kb, w.heap.size = kb := ⟨_, rfl⟩
  have HKB := hid hkb'
  rw [hN, hgb] at HN0 ⊢
  rw [show NSt w keep N w.heap.size gb [] n0 V0 = NSt w keep N kb gb [] n0 V0 by rw [hkb']] at HN0
  rw [hkb']
  clear hN hgb hkb hkb'
  have HNA := hid (nall_all (keep := keep) (w0 := w) (N := N) (kb := kb) (gb := gb) HI.out HST.out hw0 1048576)
  go_wp2_with fail
  go_loopw [25] (fun iv wr => ∃ (j : Nat) (st : List (ByteArray × ByteArray) × Nat), j ≤ ls.length ∧ iv = .int .i64 j ∧ st = (occB (ls.take j)).foldl (nameP keep nmB) ([], n0) ∧ NSt w keep N kb gb st.1 st.2 wr) (fun iv _ => ls.length - (intOf iv).toNat)
  case atStart => exact ⟨0, ([], n0), Nat.zero_le _, rfl, rfl, HN0.out⟩
  case round =>
    obtain ⟨j, st, hj, rfl, hst, hNS⟩ := hrel
    by_cases hlt : j < ls.length
    · obtain ⟨bb, oo, a1, c1, rfl, bd0⟩ := HB.out.cells j hlt
      have htk : ls.take (j + 1) = ls.take j ++ [ls[j]] := List.take_succ_eq_append_getElem hlt
      obtain ⟨⟨vn, ⟨x, l⟩⟩, hbd⟩ : ∃ b, ls[j] = b := ⟨_, rfl⟩
      have hnl := HNN.out _ (List.getElem_mem hlt)
      rw [hbd] at bd0 htk hnl
      have bd := bd0.below hNS.low
      have p0 := bd.var; have p1 := bd.name; have p2 := bd.sym; have p3 := bd.list
      have hlen := flat_take (fun b : Bn => occs b.2) ls (j + 1)
      rw [htk, List.flatMap_append, List.length_append, List.flatMap_cons, List.flatMap_nil, List.append_nil] at hlen
      have hfl := fold_len keep (occB (ls.take j)) ([], n0)
      rw [← hst] at hfl
      have hoc : occs (x, l) = occN x l := rfl
      have hob : occB ls = ls.flatMap fun b => occs b.2 := rfl
      have hob2 : occB (ls.take j) = (ls.take j).flatMap fun b => occs b.2 := rfl
      have hO := HO.out
      rw [hob] at hO
      rw [hob2] at hfl
      dsimp only at hlen hfl hnl bd0
      rw [hoc] at hlen
      have hm1 : ((ls.take j).flatMap fun b => occs b.2).length * (keep.length + 1) ≤ 2097152 * 1048577 := Nat.mul_le_mul (by omega) (by omega)
      have hm2 : (occN x l).length * (keep.length + 1) ≤ 2097152 * 1048577 := Nat.mul_le_mul (by omega) (by omega)
      have HC := hid (HNA.out x l a1 c1 st.1 st.2 (wr.alloc (.cells #[.string vn, .string x.1, .int .i64 x.2, .slice a1 (lenF l) c1] 42)) hnl bd0.tm (hNS.below (alloc_below0 _ _)) (by simp only [List.length_nil] at hfl; omega) (by omega))
      have HTK := hid htk; have HSTT := hid hst
      clear hlen hfl hoc hob hob2 hO hm1 hm2 bd bd0 htk hst hNS hbd hnl
      dsimp only at p0 p1 p2 p3
      go_wp2_with (go_at_call 22; refine HC.out.mono ?_; rintro e w2 ⟨rfl, hS2⟩; have HS2 := hid hS2; clear hS2)
      go_roundw
      case rel =>
        refine ⟨j + 1, _, by omega, by go_num, ?_, HS2.out⟩
        rw [HTK.out]
        unfold occB
        rw [List.flatMap_append, List.foldl_append]
        show _ = List.foldl _ (List.foldl _ _ (occB (ls.take j))) _
        rw [← HSTT.out, List.flatMap_cons, List.flatMap_nil, List.append_nil]
        rfl
      case measure => simp [intOf]; omega
    · have e1 : j = ls.length := by omega
      have ht : ls.take j = ls := List.take_of_length_le (by omega)
      rw [ht] at hst
      obtain ⟨U, rfl⟩ : ∃ U, U = wr := ⟨_, rfl⟩
      have HSX := hid hNS; have HSE := hid hst
      clear hNS hst e1 ht HN0 HNA
      have hfin := fold_len keep (occB ls) ([], n0)
      rw [← HSE.out] at hfin
      have hm1 : (occB ls).length * (keep.length + 1) ≤ 2097152 * 1048577 := Nat.mul_le_mul HO.out (by omega)
      have hst2 : st.2 ≤ 1000000000000000000 := by simp only at hfin; omega
      have hsz := fold_size keep (occB ls) ([], n0) (fun _ h => by cases h) (by simp only; omega)
      rw [← HSE.out] at hsz
      have HSZ := hid hsz
      clear hfin hm1 hsz
      obtain ⟨i0, hi, hz0, hz1, hz2⟩ := info_parts Tryz.info42
      have hmax : maxLen = 9223372036854775807 := rfl
      go_upto_region 7 with fail
      go_upto_region 8 with (at_make; refine wpList_make_full _ rfl _ _ 24 rfl U.heap.size 42 i0 (.agg #[.string ⟨#[]⟩, .string ⟨#[]⟩, .int .i64 0, .slice none 0 0]) 4 Tryz.underlying24 hi hz0 hz1 .i64 .i64 _ _ ls.length rfl rfl rfl rfl (by rw [hz2]; omega) (by omega) (Nat.le_refl _) ?_; intro V hown0 hgrow0)
      have hbm : Below U.heap.size U V := (Below.refl _ _).grown hgrow0 (Nat.le_refl _) (fun k e => by cases e)
      have HF0 := hid ((FillB.start hown0).base' HSX.out.low.size)
      have HBM := hid hbm
      have hM : w.heap.size ≤ U.heap.size := HSX.out.low.size
      have hgM : gb < U.heap.size := by
        obtain ⟨D, ⟨es, cl, h1, _⟩, _⟩ := HSX.out.gv.ex
        exact (Array.getElem?_eq_some_iff.1 h1).1
      have HPU : Hid (∀ (x : ByteArray × Int) (l : Fo) (a : Option Addr) (c : Nat) (W : World), Below U.heap.size U W → nodesF l ≤ 1048576 → TmAt w x a c l → Calls Tryz.prog 24 #[.map (some gb), .agg #[.string x.1, .int .i64 x.2, .slice a (lenF l) c]] W fun e w' => ∃ a' c', e = .returned (.agg #[.string (putN (lkG st.1) x l).1.1, .int .i64 (putN (lkG st.1) x l).1.2, .slice a' (lenF (putN (lkG st.1) x l).2) c']) ∧ TmAt w' (putN (lkG st.1) x l).1 a' c' (putN (lkG st.1) x l).2 ∧ Below W.heap.size W w') := hid fun x l a c W hW hn hT =>
        (put_all (lkG st.1) 1048576 x l a c (.map (some gb)) U.heap.size W hn hW.size (tm_only (tm_in hT) fun b hb hP => ⟨by omega, (hW.block b (by omega)).trans (HSX.out.low.block b hb)⟩) (GvAt.tabO (HSX.out.gv.below hW) HSZ.out hgM)).mono fun e w' ⟨a', c', h1, h2, h3⟩ => ⟨a', c', h1, tm_whole h2, h3⟩
      clear hown0 hgrow0 hbm HKB
      go_wp2_with fail
      go_loopw [38] (fun iv wq => ∃ ks : List Bk, ks.length ≤ ls.length ∧ iv = .int .i64 (ks.length : Int) ∧ FillB w.heap.size ls.length U.heap.size wq ks ∧ Below U.heap.size U wq ∧ Dn sg (lkG st.1) ls ks) (fun iv _ => ls.length - (intOf iv).toNat)
      case atStart => exact ⟨[], Nat.zero_le _, rfl, HF0.out, HBM.out, fun i _ h' => absurd h' (by simp)⟩
      case round =>
        obtain ⟨ks, hkl, rfl, hF, hlow, hks⟩ := hrel
        by_cases hlt : ks.length < ls.length
        · obtain ⟨bb, oo, a1, c1, rfl, bd0⟩ := HB.out.cells ks.length hlt
          obtain ⟨⟨vn, ⟨x, l⟩⟩, hbd⟩ : ∃ b, ls[ks.length] = b := ⟨_, rfl⟩
          have hnl := HNN.out _ (List.getElem_mem hlt)
          rw [hbd] at bd0 hnl
          have bd := bd0.below (HSX.out.low.trans (hlow.mono hM))
          have p0 := bd.var; have p1 := bd.name; have p2 := bd.sym; have p3 := bd.list
          have bx := alloc_below0 wr (.cells #[.string vn, .string x.1, .int .i64 x.2, .slice a1 (lenF l) c1] 42)
          have HX := hid (Box.new wr 42 #[.string vn, .string x.1, .int .i64 x.2, .slice a1 (lenF l) c1])
          have HBX := hid bx
          have HL := hid hlow; have HF := hid hF; have HKS := hid hks; have HT := hid bd0.tm; have HBD := hid hbd
          dsimp only at p0 p1 p2 p3 hnl
          have HLX := hid (HL.out.trans (bx.mono HL.out.size))
          have HSB := hid (HSX.out.below HLX.out)
          have x0 := HX.out.c 0; have x1 := HX.out.c 1; have x2 := HX.out.c 2; have x3 := HX.out.c 3
          have n1 := HSB.out.c1
          clear hbd bd bd0 bx hlow hF hks
          go_upto_region 11 with fail
          clear p0 p1 p2 p3
          go_region_with (first
            | (go_at_call 24; refine Calls.mono (HPU.out x l a1 c1 _ (HLX.out.drew) hnl HT.out) ?_; rintro e w2 ⟨a2, c2, rfl, hT2, hb2⟩; have HT2 := hid hT2; have HB2 := hid (((Below.refl _ (wr.alloc (.cells #[.string vn, .string x.1, .int .i64 x.2, .slice a1 (lenF l) c1] 42))).drew).trans hb2); have HX2 := hid (HX.out.below HB2.out); have HS2 := hid (HSB.out.below HB2.out); have y0 := HX2.out.c 0; have y1 := HX2.out.c 1; have y2 := HX2.out.c 2; have y3 := HX2.out.c 3; have m1 := HS2.out.c1; clear hT2 hb2)
            | (go_at_call 23; refine Calls.mono (pcanon_any S sn cap sg (putN (lkG st.1) x l) a2 c2 _ (HS.out.below HS2.out.low) HT2.out (Nat.le_trans (putG_nodesN st.1 x l) hnl)) ?_; rintro e w3 ⟨k, rfl, hcan, hloo, hb3⟩; have HCAN := hid hcan; have HLOO := hid hloo; have HX3 := hid (HX2.out.below hb3); have HB3 := hid (HBX.out.trans ((HB2.out.trans (hb3.mono HB2.out.size)).mono HBX.out.size)); have z0 := HX3.out.c 0; have HF3 := hid (HF.out.below HB3.out); obtain ⟨u0, v0⟩ := HF3.out.cells hlt 0 (by decide); rw [Nat.add_zero] at v0; obtain ⟨u1, v1⟩ := HF3.out.cells hlt 1 (by decide); obtain ⟨u2, v2⟩ := HF3.out.cells hlt 2 (by decide); obtain ⟨u3, v3⟩ := HF3.out.cells hlt 3 (by decide); have f0 := owns_froz HF3.out.row (ks.length * 4); have f1 := owns_froz HF3.out.row (ks.length * 4 + 1); have f2 := owns_froz HF3.out.row (ks.length * 4 + 2); have f3 := owns_froz HF3.out.row (ks.length * 4 + 3); clear hcan hloo hb3)
            | fail)
          all_goals
            have HD := hid (HKS.out.step hlt HBD.out (y := (vn, k)) rfl HCAN.out)
            have HF4 := hid (HF.out.step (y := (vn, k)) HB3.out (SepTm.mono (fun q hq => by have := HLX.out.size; have := HB2.out.size; have := HBX.out.size; omega) HLOO.out.1) (by have := HL.out.size; omega) hlt)
            have HL4 := hid (set4_below (g := U.heap.size) (HL.out.trans (HB3.out.mono HL.out.size)) (Nat.le_refl _) (ks.length * 4) (vn, k))
            clear x0 x1 x2 x3 n1 y0 y1 y2 y3 m1 z0 v0 v1 v2 v3 f0 f1 f2 f3 HSB HX HBX HLX HX2 HS2 HX3 HF3 HT2 HCAN HLOO HPU HF HL HKS HB2 HB3
            go_wp2_with fail
            go_roundw
            case rel => exact ⟨ks ++ [(vn, k)], by simp; omega, by simp, HF4.out, HL4.out, HD.out⟩
            case measure => simp [intOf]; omega
        · have e1 : ks.length = ls.length := by omega
          have HSX2 := hid (HSX.out.below hlow)
          have HFD := hid (hF.done e1)
          have HLL := hid (HSX.out.low.trans (hlow.mono HSX.out.low.size))
          have HKS := hid hks
          have n2 := HSX2.out.c2
          clear hF hlow hks HPU
          go_wp2_with fail
          have hmx : min ((st.2 : Nat) : Int) 9223372036854775807 = (st.2 : Int) := by omega
          have hwr : IntKind.i64.wrap ((st.2 : Nat) : Int) = (st.2 : Int) := by rw [IntKind.wrap_i64]; omega
          go_region_with (fail)
          all_goals
            go_wp2_with fail
            refine bodyPost_ret (results_tmp2 rfl _ _ _) rfl ?_
            have hse := HSE.out
            subst hse
            subst hn0
            exact ⟨_, ks, rfl, e1, HKS.out, HFD.out.below ((Below.refl _ _).drew), HLL.out.drew⟩
end Go.Proofs.YtgcnjpiiofjljaaGreatDoor
/- The document's Names. -/
namespace Go.Proofs.YtgcnjpiiofjljaaGreatDoor
open Go.RowKit Go.Deep Go.Sort

/-- A name and its new one, as a bind. -/
def bkG (p : ByteArray × ByteArray) : Bk := (p.1, ⟨(p.2, 0), .nil, none, 0⟩)
theorem sep_leaf (W : World) (A : Nat → Prop) (y : ByteArray) (h : y.size ≤ maxLen) : SepTm W A (y, 0) none 0 .nil := ⟨⟨h, Nat.le_refl _, Nat.zero_le _, by simp [lenF]⟩, .inl rfl⟩
theorem nameD_len (keep : List ByteArray) (st : List (ByteArray × ByteArray) × Nat) (s : ByteArray) : (nameD keep nmB st s).1.length ≤ st.1.length + 1 ∧ (nameD keep nmB st s).2 ≤ st.2 + keep.length + 1 := by
  have := nxt_le keep nmB st.2
  unfold nameD
  split
  · exact ⟨by omega, by omega⟩
  · exact ⟨by simp, by show nxt keep nmB st.2 + 1 ≤ _; omega⟩
theorem foldD_len (keep : List ByteArray) : ∀ (occ : List ByteArray) (st : List (ByteArray × ByteArray) × Nat), (occ.foldl (nameD keep nmB) st).1.length ≤ st.1.length + occ.length ∧ (occ.foldl (nameD keep nmB) st).2 ≤ st.2 + occ.length * (keep.length + 1)
  | [], st => ⟨by simp, by simp⟩
  | s :: r, st => by
    have h1 := nameD_len keep st s
    have h2 := foldD_len keep r (nameD keep nmB st s)
    rw [List.foldl_cons, List.length_cons, Nat.succ_mul]
    omega
theorem rows_apart {B : Nat} {W : World} {v u : Value} {n m : Nat} {xs ys : List Value} (h : W.ownsRow B 9 1 v n xs) (k : W.ownsRow B 42 4 u m ys) : ∀ q, v.ownBlock = some q → u.ownBlock ≠ some q := fun q hq hq2 => by
  obtain ⟨_, c1, h1⟩ := owns_cells h hq
  obtain ⟨_, c2, h2⟩ := owns_cells k hq2
  rw [h1] at h2
  cases h2
theorem itoa_b (m : Nat) (h : m ≤ 9223372036854775807) (W : World) (hs : Std W) : Calls Tryz.prog 33 #[.int .i64 m] W fun e w' => e = .returned (.string ⟨(Lib.decDigits m).toArray⟩) ∧ Below W.heap.size W w' :=
  (itoa_any m (by omega) (by omega) W hs).mono fun e w' ⟨h1, k, os, h2⟩ => ⟨by rw [h1, Lib.itoa_nonneg], by rw [h2]; exact below_grown _ _ _⟩
/-- Names' second loop. -/
structure NmK (w : World) (lv : Value) (L : List ByteArray) (v : Value) (G : List (ByteArray × ByteArray)) (W : World) : Prop where
  strs : W.ownsRow w.heap.size 9 1 lv L.length (strV L)
  out : SepB w.heap.size W v (G.map bkG)
  low : Below w.heap.size w W
theorem NmK.below {w W W' : World} {lv v : Value} {L : List ByteArray} {G : List (ByteArray × ByteArray)} (h : NmK w lv L v G W) (hb : Below W.heap.size W W') : NmK w lv L v G W' :=
  ⟨owns_below h.strs hb, h.out.below hb, h.low.trans (hb.mono h.low.size)⟩
theorem NmK.grow {w W W1 W2 : World} {lv v v' : Value} {L : List ByteArray} {G : List (ByteArray × ByteArray)} {y : ByteArray × ByteArray} (h : NmK w lv L v G W) (hb : Below W.heap.size W W1) (hy : y.2.size ≤ maxLen)
    (ho : W2.ownsRow w.heap.size 42 4 v' (G.map bkG ++ [bkG y]).length (bkAll (G.map bkG ++ [bkG y]))) (hg : W1.grownBy W2 v.ownBlock) (hat : v'.ownBlock = v.ownBlock ∨ v'.ownBlock = some W1.heap.size) : NmK w lv L v' (G ++ [y]) W2 := by
  refine ⟨?_, ?_, ?_⟩
  · have h1 := owns_below h.strs hb
    exact owns_block h1 fun q hq => hg.block q (own_lt h1 hq).2 fun e => rows_apart h1 (owns_below h.out.row hb) q hq e.symm
  · rw [List.map_append]
    exact h.out.grow hb (sep_leaf W1 _ y.2 hy) h.low.size hg hat ho
  · refine (h.low.trans (hb.mono h.low.size)).grown hg (Nat.le_trans h.low.size hb.size) fun k e => ?_
    exact (owns_cells h.out.row e).1
set_option maxRecDepth 100000 in
set_option maxHeartbeats 4000000 in
theorem rnames2_any (p : Option Addr) (bcap : Nat) (ls : List Bn) (pn : Option Addr) (cn : Nat) (keep : List ByteArray) (f : Int) (w : World)
    (inj : ∀ a b, nmB a = nmB b → a = b) (hstd : Std w) (hw0 : 0 < w.heap.size) (hB : BindsAt w p ls.length ls) (hK : StrsAt w pn keep.length keep) (hf0 : -9223372036854775808 ≤ f) (hf : f ≤ 1099511627776) (hk : keep.length ≤ 1048576) (ho : (occB ls).length ≤ 1048576) (hn : ∀ b ∈ ls, nodesF b.2.2 ≤ 1048576)
    (hoc : ∀ b ∈ ls, namesN b.2.1 ++ namesFo b.2.2 = (occs b.2).map fun s => s.data.toList) (hfo : ∀ s ∈ occB ls, s.size ≤ maxLen) :
    Calls Tryz.prog 15 #[.slice p ls.length bcap, .slice pn keep.length cn, .int .i64 f] w fun e w' => ∃ v, e = .returned (.tuple #[v, .int .i64 ((((occB ls).foldl onceN []).foldl (nameD keep nmB) ([], fst1 f)).2 : Nat)]) ∧
      SepB w.heap.size w' v ((((occB ls).foldl onceN []).foldl (nameD keep nmB) ([], fst1 f)).1.map bkG) ∧ Below w.heap.size w w' := by
  have HIN := hid fun (s : ByteArray) (W : World) (hW : Below w.heap.size w W) => in_any pn cn keep s W (hK.below hW)
  have HI := hid inj; have HB := hid hB; have HST := hid hstd; have HO := hid ho; have HNN := hid hn; have HOC := hid hoc; have HFO := hid hfo
  have hbl : ls.length ≤ 9223372036854775807 := hB.small
  clear inj hB hK hstd ho hn hoc hfo
  go_enter Tryz.func15, Tryz.ntmps15
  go_wp2_with fail
  go_loopw [8, 9] (fun lw iv wr => ∃ (j : Nat) (lv : Value), lv = lw ∧ j ≤ ls.length ∧ iv = .int .i64 j ∧ wr.ownsRow w.heap.size 9 1 lv ((occB (ls.take j)).foldl onceN []).length (strV ((occB (ls.take j)).foldl onceN [])) ∧ Below w.heap.size w wr) (fun _ iv _ => ls.length - (intOf iv).toNat)
  case atStart => exact ⟨0, _, rfl, Nat.zero_le _, rfl, World.ownsRow_nil _ _ _ _, Below.refl _ _⟩
  case round =>
    obtain ⟨j, lv, rfl, hj, rfl, hrow, hlow⟩ := hrel
    have hsub : ∀ s ∈ occB (ls.take j), s ∈ occB ls := fun s hs => by
      obtain ⟨b, hb, hs2⟩ := List.mem_flatMap.1 hs
      exact List.mem_flatMap.2 ⟨b, List.mem_of_mem_take hb, hs2⟩
    have hlen := flat_take (fun b : Bn => occs b.2) ls (j + 1)
    obtain ⟨hfit1, hlen1⟩ := once_fold (occB (ls.take j)) [] (by simp) fun s hs => HFO.out s (hsub s hs)
    have hO := HO.out
    by_cases hlt : j < ls.length
    · obtain ⟨bb, oo, a1, c1, rfl, bd0⟩ := HB.out.cells j hlt
      have htk : ls.take (j + 1) = ls.take j ++ [ls[j]] := List.take_succ_eq_append_getElem hlt
      have hmem := List.getElem_mem hlt
      obtain ⟨⟨vn, ⟨x, l⟩⟩, hbd⟩ : ∃ b, ls[j] = b := ⟨_, rfl⟩
      rw [hbd] at bd0 htk hmem
      have bd := bd0.below hlow
      have p1 := bd.name; have p2 := bd.sym; have p3 := bd.list
      dsimp only at p1 p2 p3
      rw [htk, List.flatMap_append, List.length_append, List.flatMap_cons, List.flatMap_nil, List.append_nil] at hlen
      have hob : occB ls = ls.flatMap fun b => occs b.2 := rfl
      have hob2 : occB (ls.take j) = (ls.take j).flatMap fun b => occs b.2 := rfl
      rw [hob] at hO
      have hsm : ((occB (ls.take j)).foldl onceN []).length + (occs (x, l)).length ≤ 4194304 := by rw [hob2] at hlen1 ⊢; simp only [List.length_nil] at hlen1; dsimp only at hlen; omega
      have hfx : ∀ s ∈ occs (x, l), s.size ≤ maxLen := fun s hs => HFO.out s (List.mem_flatMap.2 ⟨_, hmem, hs⟩)
      obtain ⟨S, hS⟩ : ∃ S, (occB (ls.take j)).foldl onceN [] = S := ⟨_, rfl⟩
      have hnx : (occB (ls.take (j + 1))).foldl onceN [] = (occs (x, l)).foldl onceN S := by
        rw [htk, ← hS]
        unfold occB
        rw [List.flatMap_append, List.foldl_append, List.flatMap_cons, List.flatMap_nil, List.append_nil]
      rw [hS] at hrow hfit1 hsm
      have HC := hid (first_any w.heap.size x l a1 c1 lv S (occs (x, l)) wr bd.tm hlow.size hrow hfit1 hfx (HOC.out _ hmem) hsm (HNN.out _ hmem))
      have HNX := hid hnx; have HL := hid hlow
      clear bd bd0 hlen hob hob2 hsm hfx hS hnx htk hrow hlow hfit1 hlen1 hO hmem hsub
      go_wp2_with (go_at_call 31; refine HC.out.mono ?_; rintro e w2 ⟨v2, rfl, hr2, hb2⟩; have HR2 := hid hr2; have HB2 := hid (HL.out.trans hb2); clear hr2 hb2)
      go_roundw
      case rel =>
        refine ⟨j + 1, _, rfl, by omega, by go_num, ?_, HB2.out⟩
        rw [HNX.out]
        exact HR2.out
      case measure => simp [intOf]; omega
    · obtain rfl : j = ls.length := by omega
      have ht : ls.take ls.length = ls := List.take_of_length_le (by omega)
      rw [ht] at hrow hlen1 hfit1
      obtain ⟨L, hL⟩ : ∃ L, (occB ls).foldl onceN [] = L := ⟨_, rfl⟩
      rw [hL] at hrow hlen1 hfit1
      have hLn : L.length ≤ 1048576 := by simp only [List.length_nil] at hlen1; omega
      have hf1 : fst1 f ≤ 1099511627776 := by unfold fst1; omega
      have e2 : max 1 f = ((fst1 f : Nat) : Int) := by unfold fst1; omega
      have HR := hid hrow; have HL := hid hlow; have HFT := hid hfit1
      clear hrow hlow hfit1 hlen1 hlen ht hsub hO
      obtain ⟨U, rfl⟩ : ∃ U, U = wr := ⟨_, rfl⟩
      go_upto_region 9 with fail
      have HK0 : Hid (NmK w lv L (.slice none 0 0) [] U) := hid ⟨HR.out, SepB.nil _ _, HL.out⟩
      clear HR HL
      go_loopw [10, 11, 12] (fun nv ov iv wr => ∃ (j : Nat) (v : Value) (st : List (ByteArray × ByteArray) × Nat), v = ov ∧ j ≤ L.length ∧ iv = .int .i64 j ∧ nv = .int .i64 (st.2 : Int) ∧ st = (L.take j).foldl (nameD keep nmB) ([], fst1 f) ∧ NmK w lv L v st.1 wr) (fun _ _ iv _ => L.length - (intOf iv).toNat)
      case atStart => exact ⟨0, _, ([], fst1 f), rfl, Nat.zero_le _, rfl, rfl, rfl, HK0.out⟩
      case round =>
        obtain ⟨i, v, ⟨G, n⟩, rfl, hi, rfl, rfl, hst, hK⟩ := hrel
        have hfl := foldD_len keep (L.take i) ([], fst1 f)
        rw [← hst, List.length_take] at hfl
        simp only [List.length_nil] at hfl
        have hm1 : (min i L.length) * (keep.length + 1) ≤ 1048576 * 1048577 := Nat.mul_le_mul (by omega) (by omega)
        have hn1 : n ≤ 1000000000000000000 := by omega
        have hg1 : G.length ≤ L.length := by omega
        by_cases hlt : i < L.length
        · obtain ⟨pl, cl, hlv, hsl⟩ := row_strs hK.strs HFT.out
          subst hlv
          obtain ⟨bb, oo, rfl, p0⟩ := hsl.cells i hlt
          have htk : L.take (i + 1) = L.take i ++ [L[i]] := List.take_succ_eq_append_getElem hlt
          obtain ⟨s, hs⟩ : ∃ s, L[i] = s := ⟨_, rfl⟩
          rw [hs] at p0 htk
          have hnx : (L.take (i + 1)).foldl (nameD keep nmB) ([], fst1 f) = nameD keep nmB (G, n) s := by rw [htk, List.foldl_append, ← hst]; rfl
          have HNX := hid hnx; have HK := hid hK; have HLS := hid hs
          clear hnx htk hs hsl hK hst
          cases hin : inL keep s with
          | true =>
            have hmem := mem_inL.1 hin
            have hI := HIN.out s _ HK.out.low
            rw [hin] at hI
            go_wp2_with (go_at_call 32; refine hI.mono ?_; rintro e w' ⟨rfl, rfl⟩)
            go_roundw
            case rel =>
              refine ⟨i + 1, v, (G, n), rfl, by omega, by go_num, rfl, ?_, HK.out⟩
              rw [HNX.out]
              unfold nameD
              rw [if_pos hmem]
            case measure => simp [intOf]; omega
          | false =>
            have hmem : s ∉ keep := fun hm => by rw [mem_inL.2 hm] at hin; cases hin
            have hI := HIN.out s _ HK.out.low
            rw [hin] at hI
            obtain ⟨M, hM⟩ : ∃ M, nxt keep nmB n = M := ⟨_, rfl⟩
            have hnl := nxt_le keep nmB n
            have hng := nxt_ge keep nmB n
            rw [hM] at hnl hng
            have HM := hid hM
            clear hM
            obtain ⟨X, rfl⟩ : ∃ X, X = wr := ⟨_, rfl⟩
            go_upto_region 13 with (go_at_call 32; refine hI.mono ?_; rintro e w' ⟨rfl, hw'⟩; have hw2 := hw'.symm; subst hw2)
            have hsz : ∀ m, m ≤ M → (Lib.decDigits m).length ≤ 20 := fun m hm => by
              rw [Lib.decDigits_length]
              by_cases h : 1 ≤ m
              · have := Lib.numDigits_eq m h (by omega); split at this <;> omega
              · obtain rfl : m = 0 := by omega
                decide +kernel
            go_loopw [10] (fun nw wr => ∃ m : Nat, n ≤ m ∧ m ≤ M ∧ nw = .int .i64 (m : Int) ∧ Below X.heap.size X wr) (fun nw _ => M - (intOf nw).toNat)
            case atStart => exact ⟨n, Nat.le_refl _, hng, rfl, Below.refl _ _⟩
            case round =>
              obtain ⟨m, hm1, hm2, rfl, hbx⟩ := hrel
              have HLW := hid (HK.out.low.trans (hbx.mono HK.out.low.size))
              have hsz1 := hsz m hm2
              have HBX := hid hbx
              clear hbx
              cases hbv : inL keep (nmB m) with
              | true =>
                have hjm := nxt_more HI.out (by rw [HM.out]; exact hm2) (mem_inL.1 hbv)
                rw [HM.out] at hjm
                go_wp2_with (first
                  | (go_at_call 33; refine (itoa_b m (by omega) _ (HST.out.below HLW.out hw0)).mono ?_; rintro e w1 ⟨rfl, hb1⟩; have HB1 := hid hb1; have HI1 := HIN.out (nmB m) w1 (HLW.out.trans (hb1.mono HLW.out.size)); rw [hbv] at HI1; clear hb1)
                  | (go_at_call 32; go_loud (refine HI1.mono ?_; rintro e w' ⟨rfl, h0⟩; have h1 := h0.symm; subst h1)))
                exact ⟨⟨m + 1, by omega, hjm, by go_num, HBX.out.trans (HB1.out.mono HBX.out.size)⟩, by simp [intOf]; omega⟩
              | false =>
                have hmM : m = M := by rw [← HM.out]; exact nxt_stop hm1 (by rw [HM.out]; exact hm2) (fun h => by rw [mem_inL.2 h] at hbv; cases hbv)
                subst hmM
                obtain ⟨Y, rfl⟩ : ∃ Y, Y = wr := ⟨_, rfl⟩
                go_upto_region 16 with (first
                  | (go_at_call 33; refine (itoa_b m (by omega) _ (HST.out.below HLW.out hw0)).mono ?_; rintro e w1 ⟨rfl, hb1⟩; have HB1 := hid hb1; have HI1 := HIN.out (nmB m) w1 (HLW.out.trans (hb1.mono HLW.out.size)); rw [hbv] at HI1; clear hb1)
                  | (go_at_call 32; go_loud (refine HI1.mono ?_; rintro e w' ⟨rfl, h0⟩; have h1 := h0.symm; subst h1)))
                have hbX1 := HBX.out.trans (HB1.out.mono HBX.out.size)
                have HX1 := hid hbX1
                have HK1 := hid (HK.out.below hbX1)
                have hsl2 := row_strs HK1.out.strs HFT.out
                obtain ⟨pl2, cl2, hlv2, hsl2⟩ := hsl2
                cases hlv2
                obtain ⟨bb2, oo2, hbo, p0⟩ := hsl2.cells i hlt
                cases hbo
                rw [show L[i] = s from HLS.out] at p0
                have hwr : IntKind.i64.wrap ((m : Int) + 1) = ((m + 1 : Nat) : Int) := by rw [IntKind.wrap_i64]; omega
                have HP0 := hid p0
                have HGL : Hid ((G.map bkG).length ≤ 1048576) := hid (by rw [List.length_map]; omega)
                have hmz := nm_size m (by omega)
                clear hbX1 hsl2 HBX HB1 HLW hI HK hbv HI1
                obtain ⟨i0, hq0, hz0, hz1, hz2⟩ := info_parts Tryz.info42
                have hmax : maxLen = 9223372036854775807 := rfl
                have hgl := HGL.out
                have hcc : ¬ 9223372036854775807 < 1 + (Lib.decDigits m).length := by omega
                go_region_law
                  ((first
                    | (refine step_append_lies _ (by rfl) (.tmp 52) (.tmp 62) 24 (by rfl) w.heap.size 42 i0 _ 4 64 Tryz.underlying24 hq0 hz0 hz1 hz2 rfl (by decide) v (G.map bkG).length (bkAll (G.map bkG)) (by rfl) HRO.out ⟨w2.heap.size, 0, none⟩ 1 1 (bkCells (bkG (s, nmB m))) (by rfl) rfl HNB.out (bk_one _) (by decide) (by omega) (by omega) (Nat.le_trans HK1.out.low.size HB4.out.size) _ rfl ?_; intro g5 cap5 w5 hown5 hgrow5 hat5 hlt5; have HK5 := hid (HK1.out.grow HB4.out hmz (by rw [bkAll_snoc, List.length_append]; exact hown5) hgrow5 (by rcases hat5 with h | h; exact .inl h.symm; exact .inr (congrArg some h))); clear hown5 hgrow5 hat5)
                    | (go_simp; go_wp2_with (go_at_call 33; refine Calls.mono (itoa_b m (by omega) _ (HST.out.below HK1.out.low.drew hw0)) ?_; rintro e w2 ⟨rfl, hb2⟩; have hb3 : Below w1.heap.size w1 w2 := ((Below.refl _ w1).drew).trans hb2; have HB3 := hid hb3; have p2 := bd_cell hb3 _ _ HP0.out; have hb4 := hb3.trans ((alloc_below0 w2 (.cells #[.string s, .string (nmB m), .int .i64 0, .slice none 0 0] 42)).mono hb3.size); have HB4 := hid hb4; have HRO := hid (owns_below HK1.out.out.row hb4); have HNB := hid (World.news_of_block (heap_alloc_new w2 (.cells #[.string s, .string (nmB m), .int .i64 0, .slice none 0 0] 42))); clear hb2 hb3 hb4))
                    | fail))
                all_goals
                  clear p2 HP0 HNB HRO HB3 HX1
                  go_wp2_with fail
                  go_roundw
                  case rel =>
                    refine ⟨i + 1, _, (G ++ [(s, nmB m)], m + 1), rfl, by omega, by go_num, by go_num, ?_, (by have h := HK5.out; rw [List.length_map] at h; exact h)⟩
                    rw [HNX.out]
                    unfold nameD
                    rw [if_neg hmem, HM.out]
                  case measure => simp [intOf]; omega
        · obtain ⟨pl, cl, hlv, _⟩ := row_strs hK.strs HFT.out
          subst hlv
          obtain rfl : i = L.length := by omega
          have ht : L.take L.length = L := List.take_of_length_le (by omega)
          rw [ht] at hst
          have HKE := hid hK; have HSE := hid hst
          clear hK hst ht
          go_wp2_with fail
          refine bodyPost_ret (results_tmp2 rfl _ _ _) rfl ?_
          rw [← HSE.out]
          exact ⟨_, rfl, HKE.out.out, HKE.out.low⟩
end Go.Proofs.YtgcnjpiiofjljaaGreatDoor
/- What a table's apply answers. -/
namespace Go.Proofs.YtgcnjpiiofjljaaGreatDoor
open Go.RowKit Go.Deep Go.Shelf

theorem left0F_neg (F : Fo) (r : Int) (h : r < 0) : left0F F r = r := by
  cases F with
  | nil => rfl
  | node => unfold left0F; rw [if_pos h]
theorem left0F_eq : ∀ (F : Fo) (r : Int), 0 ≤ left0F F r → left0F F r = r - nodesF F
  | .nil, r, _ => by simp [left0F, nodesF]
  | .node _ _ x l s, r, h => by
    unfold left0F at h ⊢
    by_cases hr : r < 0
    · rw [if_pos hr] at h; omega
    · rw [if_neg hr] at h ⊢
      have h1 : 0 ≤ left0F l (r - 1) := by
        rcases Int.lt_or_le (left0F l (r - 1)) 0 with h2 | h2
        · rw [left0F_neg s _ h2] at h; omega
        · exact h2
      have e1 := left0F_eq l (r - 1) h1
      have e2 := left0F_eq s _ h
      rw [e2, e1]
      simp only [nodesF]
      omega
theorem leftF_eq (lk : ByteArray → Option Tn) : ∀ (F : Fo) (r : Int), 0 ≤ leftF lk F r → leftF lk F r = r - nodesF (putF lk F)
  | .nil, r, _ => by simp [leftF, putF, nodesF]
  | .node _ _ x l s, r, h => by
    unfold leftF at h ⊢
    unfold putF
    by_cases hr : r < 0
    · rw [if_pos hr] at h; omega
    · rw [if_neg hr] at h ⊢
      cases hk : lkN lk x.1 with
      | none =>
        rw [hk] at h
        simp only at h ⊢
        have h1 : 0 ≤ leftF lk l (r - 1) := by
          rcases Int.lt_or_le (leftF lk l (r - 1)) 0 with h2 | h2
          · rw [leftF_neg lk s _ h2] at h; omega
          · exact h2
        have e1 := leftF_eq lk l (r - 1) h1
        have e2 := leftF_eq lk s _ h
        rw [e2, e1]
        simp only [nodesF]
        omega
      | some t =>
        rw [hk] at h
        simp only at h ⊢
        have h1 : 0 ≤ left0F t.2 (r - 1) := by
          rcases Int.lt_or_le (left0F t.2 (r - 1)) 0 with h2 | h2
          · rw [leftF_neg lk s _ h2] at h; omega
          · exact h2
        have e1 := left0F_eq t.2 (r - 1) h1
        have e2 := leftF_eq lk s _ h
        rw [e2, e1]
        simp only [nodesF]
        omega
/-- What fits has no more nodes than there is room. -/
theorem leftN_eq (lk : ByteArray → Option Tn) (x : ByteArray × Int) (l : Fo) (r : Int) (h : 0 ≤ leftN lk x l r) : leftN lk x l r = r - (nodesF (putN lk x l).2 + 1 : Nat) := by
  unfold leftN at h ⊢
  unfold putN
  cases hk : lkN lk x.1 with
  | none =>
    rw [hk] at h
    simp only at h ⊢
    rw [leftF_eq lk l _ h]
    omega
  | some t =>
    rw [hk] at h
    simp only at h ⊢
    rw [left0F_eq t.2 _ h]
    omega
theorem tab_in {w : World} {mv : Value} {lk : ByteArray → Option Tn} (h : TabV w mv lk) : TabV (onlyW (fun b => b < w.heap.size) w) mv lk := by
  refine h.imp id fun ⟨b, n, h1, ⟨D, hD, hl⟩⟩ => ⟨b, n, h1, ⟨D, hD.inn fun b' es cl hh => ?_, fun s => ?_⟩⟩
  · rw [only_in (P := fun b => b < w.heap.size) (Array.getElem?_eq_some_iff.1 hh).1]
    exact hh
  · have h2 := hl s
    cases hs : lk s with
    | none => rw [hs] at h2; exact h2
    | some t =>
      rw [hs] at h2
      obtain ⟨a, c, h3, h4⟩ := h2
      exact ⟨a, c, h3, tm_in h4⟩
/-- put, of whatever lies in memory. -/
theorem put_any (mv : Value) (lk : ByteArray → Option Tn) (x : ByteArray × Int) (l : Fo) (a : Option Addr) (c : Nat) (w : World) (hT : TmAt w x a c l) (hM : TabV w mv lk) :
    Calls Tryz.prog 24 #[mv, .agg #[.string x.1, .int .i64 x.2, .slice a (lenF l) c]] w fun e w' => ∃ a' c', e = .returned (.agg #[.string (putN lk x l).1.1, .int .i64 (putN lk x l).1.2, .slice a' (lenF (putN lk x l).2) c']) ∧ TmAt w' (putN lk x l).1 a' c' (putN lk x l).2 ∧ Below w.heap.size w w' :=
  (put_all lk _ x l a c mv w.heap.size w (Nat.le_refl _) (Nat.le_refl _) (tm_in hT) (tab_in hM)).mono fun _ _ ⟨a', c', h1, h2, h3⟩ => ⟨a', c', h1, tm_whole h2, h3⟩
set_option maxRecDepth 100000 in
set_option maxHeartbeats 2000000 in
theorem apply_any (mv : Value) (lk : ByteArray → Option Tn) (S : Option Addr) (n cap : Nat) (sg : List Sym) (x : ByteArray × Int) (l : Fo) (a : Option Addr) (c : Nat) (w : World) (hS : SigAt w S n sg) (hT : TmAt w x a c l) (hM : TabV w mv lk) :
    Calls Tryz.prog 37 #[mv, .slice S n cap, .agg #[.string x.1, .int .i64 x.2, .slice a (lenF l) c]] w fun e w' => Below w.heap.size w w' ∧
      ((leftN lk x l 400 < 0 ∧ e = .returned (.tuple #[.agg #[.string ⟨#[]⟩, .int .i64 0, .slice none 0 0], .int .i64 73])) ∨
       (0 ≤ leftN lk x l 400 ∧ ∃ k : Kv, e = .returned (.tuple #[.agg #[.string k.x.1, .int .i64 k.x.2, .slice k.a (lenF k.l) k.c], .int .i64 0]) ∧ CanR sg (putN lk x l) k.tn ∧ LoosE w' (fun q => w.heap.size ≤ q) k)) := by
  obtain ⟨W0, hW0⟩ : ∃ W0, (w.alloc (.cells #[.string x.1, .int .i64 x.2, .slice a (lenF l) c] 27)).alloc (.cells #[.string ⟨#[]⟩, .int .i64 0, .slice none 0 0] 27) = W0 := ⟨_, rfl⟩
  have hb0 : Below w.heap.size w W0 := by rw [← hW0]; exact ((Below.refl _ w).alloc (Nat.le_refl _) _).alloc (by simp) _
  have b1 : XBox W0 w.heap.size x (.slice a (lenF l) c) := by rw [← hW0]; exact (Below.heap_alloc _ _ _ (by simp)).trans (World.alloc_heap_new w _)
  have b2 : XBox W0 (w.heap.size + 1) (⟨#[]⟩, 0) (.slice none 0 0) := by
    have := World.alloc_heap_new (w.alloc (.cells #[.string x.1, .int .i64 x.2, .slice a (lenF l) c] 27)) (.cells #[.string ⟨#[]⟩, .int .i64 0, .slice none 0 0] 27)
    rw [World.size_alloc] at this
    rw [← hW0]; exact this
  have hsz : W0.heap.size = w.heap.size + 2 := by rw [← hW0]; simp
  have hfi := fits_any mv lk x l a c W0 (hT.below hb0) (hM.below hb0)
  have HS := hid hS; have HT := hid hT; have HM := hid hM; have HB0 := hid hb0
  have z0 := b1.c0; have z1 := b1.c1; have z2 := b1.c2
  clear hS hT hM
  by_cases hL : 0 ≤ leftN lk x l 400
  · rw [decide_eq_true hL] at hfi
    have HFI := hid hfi
    have hnd : nodesF (putN lk x l).2 ≤ 1048576 := by
      have := leftN_eq lk x l 400 hL
      omega
    clear hfi
    go_enter Tryz.func37, Tryz.ntmps37
    go_wp2_with fail
    clear hW0
    refine HFI.out.mono ?_
    rintro e w1 ⟨rfl, hb1⟩
    have X1 := b1.below hb1
    have x0 := X1.c0; have x1 := X1.c1; have x2 := X1.c2
    have HY1 := hid (b2.below hb1)
    have HL1 := hid (hb0.trans (hb1.mono hb0.size))
    have HPT := hid (put_any mv lk x l a c w1 (HT.out.below HL1.out) (HM.out.below HL1.out))
    have hz1 : w.heap.size + 2 ≤ w1.heap.size := by have := hb1.size; omega
    clear z0 z1 z2 X1 hb1 HFI
    go_wp2_with fail
    refine HPT.out.mono ?_
    rintro e w2 ⟨a', c', rfl, hT2, hb2⟩
    have HL2 := hid (HL1.out.trans (hb2.mono HL1.out.size))
    have HY2 := hid (HY1.out.below hb2)
    have hz2 : w.heap.size + 2 ≤ w2.heap.size := Nat.le_trans hz1 hb2.size
    have HC := hid (pcanon_any S n cap sg (putN lk x l) a' c' w2 (HS.out.below HL2.out) hT2 hnd)
    clear x0 x1 x2 hb2 hT2 HPT
    go_wp2_with fail
    refine HC.out.mono ?_
    rintro e w3 ⟨k, rfl, hr3, hE3, hb3⟩
    have Y3 := HY2.out.below hb3
    have HY3 := hid Y3
    have HL3 := hid (HL2.out.trans (hb3.mono HL2.out.size))
    have r0 := Y3.c0; have r1 := Y3.c1; have r2 := Y3.c2
    have g0 := Y3.f (k := 0); have g1 := Y3.f (k := 1); have g2 := Y3.f (k := 2)
    have HR3 := hid hr3; have HE3 := hid hE3
    clear Y3 hb3 hr3 hE3 HC
    go_wp2_with fail
    refine bodyPost_ret (results_ct rfl rfl (load27 (HY3.out.all (x := k.x) _))) rfl ?_
    exact ⟨sets_below HL3.out (by omega) _ _ _, .inr ⟨hL, k, rfl, HR3.out, loosE.mono (fun q hq => by omega) (loosE.keep (fun q hq _ => sets_far (by omega) _ _ _) HE3.out)⟩⟩
  · rw [decide_eq_false hL] at hfi
    have HFI := hid hfi
    clear hfi
    go_enter Tryz.func37, Tryz.ntmps37
    go_wp2_with fail
    clear hW0
    refine HFI.out.mono ?_
    rintro e w1 ⟨rfl, hb1⟩
    have Y1 := b2.below hb1
    have HY1 := hid Y1
    have HL1 := hid (hb0.trans (hb1.mono hb0.size))
    have r0 := Y1.c0; have r1 := Y1.c1; have r2 := Y1.c2
    have g0 := Y1.f (k := 0); have g1 := Y1.f (k := 1); have g2 := Y1.f (k := 2)
    clear z0 z1 z2 Y1 hb1 HFI
    go_wp2_with fail
    refine bodyPost_ret (results_ct rfl rfl (load27 (HY1.out.all (x := (⟨#[]⟩, 0)) _))) rfl ?_
    exact ⟨sets_below HL1.out (by omega) _ _ _, .inl ⟨by omega, rfl⟩⟩
end Go.Proofs.YtgcnjpiiofjljaaGreatDoor
/- What Apply answers. -/
namespace Go.Proofs.YtgcnjpiiofjljaaGreatDoor
open Go.RowKit Go.Deep Go.Shelf

/-- What Apply leaves. -/
def ApplyEnd (sg : List Sym) (lk : ByteArray → Option Tn) (x : ByteArray × Int) (l : Fo) (w : World) (e : Ending) (w' : World) : Prop := Below w.heap.size w w' ∧
      ((leftN lk x l 400 < 0 ∧ e = .returned (.tuple #[.agg #[.string ⟨#[]⟩, .int .i64 0, .slice none 0 0], .int .i64 73])) ∨
       (0 ≤ leftN lk x l 400 ∧ ∃ k : Kv, e = .returned (.tuple #[.agg #[.string k.x.1, .int .i64 k.x.2, .slice k.a (lenF k.l) k.c], .int .i64 0]) ∧ CanR sg (putN lk x l) k.tn ∧ LoosE w' (fun q => w.heap.size ≤ q) k))
theorem ApplyEnd.form {sg : List Sym} {lk : ByteArray → Option Tn} {x : ByteArray × Int} {l : Fo} {w : World} {e : Ending} {w' : World} (h : ApplyEnd sg lk x l w e w') : ∃ (k : Kv) (er : Int), e = .returned (.tuple #[.agg #[.string k.x.1, .int .i64 k.x.2, .slice k.a (lenF k.l) k.c], .int .i64 er]) ∧ Below w.heap.size w w' ∧
    ((leftN lk x l 400 < 0 ∧ k = ⟨(⟨#[]⟩, 0), .nil, none, 0⟩ ∧ er = 73) ∨ (0 ≤ leftN lk x l 400 ∧ er = 0 ∧ CanR sg (putN lk x l) k.tn ∧ LoosE w' (fun q => w.heap.size ≤ q) k)) := by
  rcases h with ⟨hb, ⟨h1, rfl⟩ | ⟨h1, k, rfl, h2, h3⟩⟩
  · exact ⟨⟨(⟨#[]⟩, 0), .nil, none, 0⟩, 73, rfl, hb, .inl ⟨h1, rfl, rfl⟩⟩
  · exact ⟨k, 0, rfl, hb, .inr ⟨h1, rfl, h2, h3⟩⟩
set_option maxRecDepth 100000 in
set_option maxHeartbeats 4000000 in
theorem papply_any (S : Option Addr) (n cap : Nat) (sg : List Sym) (p : Option Addr) (bcap : Nat) (bs : List Bn) (x : ByteArray × Int) (l : Fo) (a : Option Addr) (c : Nat) (w : World) (hS : SigAt w S n sg) (hB : BindsAt w p bs.length bs) (hn : bs.length ≤ 1048576) (hT : TmAt w x a c l) :
    Calls Tryz.prog 18 #[.slice S n cap, .slice p bs.length bcap, .agg #[.string x.1, .int .i64 x.2, .slice a (lenF l) c]] w (ApplyEnd sg (lkB bs) x l w) := by
  obtain ⟨W0, hW0⟩ : ∃ W0, (w.alloc (.cells #[.string x.1, .int .i64 x.2, .slice a (lenF l) c] 27)).alloc (.cells #[.string ⟨#[]⟩, .int .i64 0, .slice none 0 0] 27) = W0 := ⟨_, rfl⟩
  have hb0 : Below w.heap.size w W0 := by rw [← hW0]; exact ((Below.refl _ w).alloc (Nat.le_refl _) _).alloc (by simp) _
  have b1 : XBox W0 w.heap.size x (.slice a (lenF l) c) := by rw [← hW0]; exact (Below.heap_alloc _ _ _ (by simp)).trans (World.alloc_heap_new w _)
  have b2 : XBox W0 (w.heap.size + 1) (⟨#[]⟩, 0) (.slice none 0 0) := by
    have := World.alloc_heap_new (w.alloc (.cells #[.string x.1, .int .i64 x.2, .slice a (lenF l) c] 27)) (.cells #[.string ⟨#[]⟩, .int .i64 0, .slice none 0 0] 27)
    rw [World.size_alloc] at this
    rw [← hW0]; exact this
  have hsz : W0.heap.size = w.heap.size + 2 := by rw [← hW0]; simp
  have HTB : Hid (∀ W, Below w.heap.size w W → Calls Tryz.prog 36 #[.slice p bs.length bcap] W fun e w' => e = .returned (.map (some W.heap.size)) ∧ TabAt w' W.heap.size bs.length (lkB bs) ∧ Below W.heap.size W w') := hid fun W hW => table_any p bcap bs W (hB.below hW) hn
  have HAP : Hid (∀ W mv, Below w.heap.size w W → TabV W mv (lkB bs) → Calls Tryz.prog 37 #[mv, .slice S n cap, .agg #[.string x.1, .int .i64 x.2, .slice a (lenF l) c]] W (ApplyEnd sg (lkB bs) x l W)) := hid fun W mv hW hM => apply_any mv (lkB bs) S n cap sg x l a c W (hS.below hW) (hT.below hW) hM
  have HB0 := hid hb0; have HX := hid b1; have HY := hid b2
  have z0 := b1.c0; have z1 := b1.c1; have z2 := b1.c2
  clear hS hT hB b1 b2 hb0
  go_enter Tryz.func18, Tryz.ntmps18
  go_upto_region 1 with fail
  clear hW0
  go_region_with ((first
    | (go_at_call 36; refine Calls.mono (HTB.out _ HB0.out.drew) ?_; rintro e w1 ⟨rfl, htab, hb1⟩; have hb1' : Below W0.heap.size W0 w1 := ((Below.refl _ W0).drew).trans hb1; have HTA : Hid (TabAt w1 (w.heap.size + 2) bs.length (lkB bs)) := hid (by rw [← hsz]; exact htab); have HB1 := hid (HB0.out.trans (hb1'.mono HB0.out.size)); have X1 := HX.out.below hb1'; have HY1 := hid (HY.out.below hb1'); have hz1 : w.heap.size + 2 ≤ w1.heap.size := (by have := hb1'.size; omega); have y0 := X1.c0; have y1 := X1.c1; have y2 := X1.c2; clear htab hb1 hb1' X1)
    | (go_at_call 37; refine Calls.mono (HAP.out _ _ HB1.out (.inr ⟨_, _, rfl, HTA.out⟩)) ?_; intro e w2 he2; obtain ⟨k, er, rfl, hb2, hres⟩ := he2.form; have HRS := hid hres; have Y2 := HY1.out.below hb2; have HY2 := hid Y2; have HB2 := hid (HB1.out.trans (hb2.mono HB1.out.size)); have r0 := Y2.c0; have r1 := Y2.c1; have r2 := Y2.c2; have g0 := Y2.f (k := 0); have g1 := Y2.f (k := 1); have g2 := Y2.f (k := 2); clear Y2 hb2 hres he2)
    | fail))
  all_goals
    go_wp2_with fail
    refine bodyPost_ret (results_ct rfl rfl (load27 (HY2.out.all (x := k.x) _))) rfl ?_
    refine ⟨sets_below HB2.out (by omega) _ _ _, ?_⟩
    rcases HRS.out with ⟨h1, rfl, rfl⟩ | ⟨h1, rfl, h2, h3⟩
    · exact .inl ⟨h1, rfl⟩
    · exact .inr ⟨h1, k, rfl, h2, loosE.mono (fun q hq => by omega) (loosE.keep (fun q hq _ => sets_far (by omega) _ _ _) h3)⟩
end Go.Proofs.YtgcnjpiiofjljaaGreatDoor
/- The document's Get. -/
namespace Go.Proofs.YtgcnjpiiofjljaaGreatDoor
open Go.RowKit Go.Deep Go.Shelf

theorem name_eq {a b : ByteArray} (h : (a.toList == b.toList) = true) : a = b := by
  have h1 : a.toList = b.toList := eq_of_beq h
  rw [ByteArray.toList_eq, ByteArray.toList_eq] at h1
  exact Go.WideShapes.bytes_inj h1
/-- The first bind of a name. -/
def getB (bs : List Bn) (s : ByteArray) : Option Tn := (bs.find? fun b => decide (b.1 = s)).map (·.2)
/-- What Get tells: a term in memory, and whether it stands for the name. -/
def GetEnd (bs : List Bn) (s : ByteArray) (w : World) (e : Ending) (w' : World) : Prop := Below w.heap.size w w' ∧
  ((getB bs s = none ∧ e = .returned (.tuple #[.agg #[.string s, .int .i64 0, .slice none 0 0], .bool false])) ∨ ∃ t a c, getB bs s = some t ∧ TmAt w t.1 a c t.2 ∧ e = .returned (.tuple #[.agg #[.string t.1.1, .int .i64 t.1.2, .slice a (lenF t.2) c], .bool true]))
set_option maxRecDepth 100000 in
set_option maxHeartbeats 2000000 in
theorem rget_any (p : Option Addr) (bcap : Nat) (bs : List Bn) (s : ByteArray) (w : World) (hB : BindsAt w p bs.length bs) (hn : bs.length ≤ 1048576) :
    Calls Tryz.prog 34 #[.slice p bs.length bcap, .string s] w (GetEnd bs s w) := by
  have HB := hid hB
  have b0 := alloc_below0 w (.cells #[.string ⟨#[]⟩, .int .i64 0, .slice none 0 0] 27)
  have X0 : XBox (w.alloc (.cells #[.string ⟨#[]⟩, .int .i64 0, .slice none 0 0] 27)) w.heap.size (⟨#[]⟩, 0) (.slice none 0 0) := World.alloc_heap_new w _
  have HL := hid b0; have HX := hid X0
  clear hB b0 X0
  go_enter Tryz.func34, Tryz.ntmps34
  go_wp2_with fail
  generalize w.alloc (.cells #[.string ⟨#[]⟩, .int .i64 0, .slice none 0 0] 27) = V at HL HX ⊢
  go_loopw [6] (fun iv wr => ∃ i : Nat, i ≤ bs.length ∧ iv = .int .i64 i ∧ wr = V ∧ ∀ b ∈ bs.take i, b.1 ≠ s) (fun iv _ => bs.length - (intOf iv).toNat)
  case atStart => exact ⟨0, Nat.zero_le _, rfl, rfl, by simp⟩
  case round =>
    obtain ⟨i, hi, rfl, rfl, hno⟩ := hrel
    by_cases hlt : i < bs.length
    · obtain ⟨b1, o1, a1, c1, rfl, hbw⟩ := HB.out.cells i hlt
      have hbd := hbw.below HL.out
      obtain ⟨⟨vn, ⟨x, l⟩⟩, hyy⟩ : ∃ y, bs[i] = y := ⟨_, rfl⟩
      rw [hyy] at hbd hbw
      have p0 := hbd.var; have p1 := hbd.name; have p2 := hbd.sym; have p3 := hbd.list
      dsimp only at p0 p1 p2 p3
      have r0 := HX.out.c0; have r1 := HX.out.c1; have r2 := HX.out.c2
      have g0 := HX.out.f (k := 0); have g1 := HX.out.f (k := 1); have g2 := HX.out.f (k := 2)
      cases ht : (vn.toList == s.toList) with
      | true =>
        obtain rfl := name_eq ht
        have hf : bs.find? (fun b => decide (b.1 = vn)) = some (vn, (x, l)) := List.find?_eq_some_iff_append.2 ⟨by simp, bs.take i, bs.drop (i + 1), by rw [← hyy]; rw [← List.drop_eq_getElem_cons hlt, List.take_append_drop], fun b hb => by simpa using hno b hb⟩
        have hg : getB bs vn = some (x, l) := by
          unfold getB
          rw [hf]
          rfl
        have HG := hid hg
        have HT := hid hbw.tm
        clear hbd hbw HB hg hf
        go_wp2_with fail
        refine bodyPost_ret (results_ct rfl rfl (load27 (HX.out.all (x := x) _))) rfl ?_
        exact ⟨sets_below HL.out (by omega) _ _ _, .inr ⟨(x, l), a1, c1, HG.out, HT.out, rfl⟩⟩
      | false =>
        have hs : vn ≠ s := fun e => by rw [e] at ht; simp at ht
        clear hbd hbw HB
        go_wp2_with fail
        refine ⟨⟨i + 1, by omega, rfl, trivial, fun b hb => ?_⟩, by simp [intOf]; omega⟩
        rw [List.take_succ_eq_append_getElem hlt] at hb
        rcases List.mem_append.1 hb with hb | hb
        · exact hno b hb
        · rw [List.mem_singleton.1 hb, hyy]
          exact hs
    · have hg : getB bs s = none := by
        unfold getB
        rw [List.take_of_length_le (by omega)] at hno
        rw [List.find?_eq_none.2 (fun b hb => by simpa using hno b hb)]
        rfl
      have r0 := HX.out.c0; have r1 := HX.out.c1; have r2 := HX.out.c2
      have g0 := HX.out.f (k := 0); have g1 := HX.out.f (k := 1); have g2 := HX.out.f (k := 2)
      go_wp2_with fail
      refine bodyPost_ret (results_ct rfl rfl (load27 (HX.out.all (x := (s, 0)) _))) rfl ?_
      exact ⟨sets_below HL.out (by omega) _ _ _, .inl ⟨hg, rfl⟩⟩
end Go.Proofs.YtgcnjpiiofjljaaGreatDoor
/- What the document's Size and Has answer of any term. -/
namespace Go.Proofs.YtgcnjpiiofjljaaGreatDoor
open Go.RowKit Go.Deep

end Go.Proofs.YtgcnjpiiofjljaaGreatDoor
/- The document's grown. -/
namespace Go.Proofs.YtgcnjpiiofjljaaGreatDoor
open Go.RowKit Go.Deep Go.Shelf

/-- How many nodes stand for a name. -/
def szB (bs : List Bn) (s : ByteArray) : Nat := match getB bs s with | some t => nodesF t.2 + 1 | none => 1
def growF (bs : List Bn) : Fo → Int → Int
  | .nil, r => r
  | .node _ _ x l s, r => if r < 0 then r else growF bs s (if noName x.1 = true then growF bs l (r - 1) else r - szB bs x.1)
def growN (bs : List Bn) (x : ByteArray × Int) (l : Fo) (r : Int) : Int := if noName x.1 = true then growF bs l (r - 1) else r - szB bs x.1
theorem growF_neg (bs : List Bn) (F : Fo) (r : Int) (h : r < 0) : growF bs F r = r := by
  cases F with
  | nil => rfl
  | node => unfold growF; rw [if_pos h]
theorem growF_bd (bs : List Bn) (hs : ∀ s, szB bs s ≤ 1048577) : ∀ (F : Fo) (r : Int), -1048578 ≤ r → -1048578 ≤ growF bs F r ∧ growF bs F r ≤ r
  | .nil, r, h => ⟨h, Int.le_refl _⟩
  | .node _ _ x l s, r, h => by
    unfold growF
    split
    · omega
    · have h1 : -1048578 ≤ (if noName x.1 = true then growF bs l (r - 1) else r - szB bs x.1) ∧ (if noName x.1 = true then growF bs l (r - 1) else r - szB bs x.1) ≤ r := by
        split
        · have := growF_bd bs hs l (r - 1) (by omega)
          omega
        · have := hs x.1
          omega
      have h2 := growF_bd bs hs s _ h1.1
      omega
end Go.Proofs.YtgcnjpiiofjljaaGreatDoor
/- The document's PutIn. -/
namespace Go.Proofs.YtgcnjpiiofjljaaGreatDoor
open Go.RowKit Go.Deep Go.Shelf

def getN (bs : List Bn) (s : ByteArray) : Tn := match getB bs s with | some t => t | none => ((s, 0), .nil)
/-- Terms in which the first binds' terms stand for variables. -/
def pinF (bs : List Bn) : Fo → Fo
  | .nil => .nil
  | .node B O x l r => if noName x.1 = true then .node B O x (pinF bs l) (pinF bs r) else .node B O (getN bs x.1).1 (getN bs x.1).2 (pinF bs r)
def pinN (bs : List Bn) (x : ByteArray × Int) (l : Fo) : Tn := if noName x.1 = true then (x, pinF bs l) else getN bs x.1
theorem pinF_len (bs : List Bn) : ∀ F : Fo, lenF (pinF bs F) = lenF F
  | .nil => rfl
  | .node _ _ x l r => by
    unfold pinF
    split
    · simp only [lenF]; rw [pinF_len bs r]
    · simp only [lenF]; rw [pinF_len bs r]
theorem pinF_kids (bs : List Bn) : ∀ F : Fo, kidsL (pinF bs F) = (kidsL F).map fun y => pinN bs y.1 y.2
  | .nil => rfl
  | .node _ _ x l r => by
    unfold pinF
    by_cases h : noName x.1 = true
    · rw [if_pos h]
      simp only [kidsL, List.map_cons]
      rw [pinF_kids bs r]
      unfold pinN
      rw [if_pos h]
    · rw [if_neg h]
      simp only [kidsL, List.map_cons]
      rw [pinF_kids bs r]
      unfold pinN
      rw [if_neg h]
theorem no_name {s : ByteArray} (h : noName s = true) : s = ⟨#[]⟩ := name_eq (by
  have h1 : s.toList = [] := List.isEmpty_iff.1 h
  rw [h1, ByteArray.toList_eq]
  rfl)
def PinOk (bs : List Bn) (k : Nat) : Prop := ∀ (x : ByteArray × Int) (l : Fo) (a : Option Addr) (c : Nat) (p : Option Addr) (bcap : Nat) (w : World), nodesF l ≤ k → TmAt w x a c l → BindsAt w p bs.length bs →
  Calls Tryz.prog 16 #[.slice p bs.length bcap, .agg #[.string x.1, .int .i64 x.2, .slice a (lenF l) c]] w fun e w' => ∃ a' c', e = .returned (.agg #[.string (pinN bs x l).1.1, .int .i64 (pinN bs x l).1.2, .slice a' (lenF (pinN bs x l).2) c']) ∧ RowTm w.heap.size w' (pinN bs x l).1 a' c' (pinN bs x l).2 ∧ Below w.heap.size w w'
set_option maxRecDepth 100000 in
set_option maxHeartbeats 4000000 in
theorem pin_all (bs : List Bn) (hbn : bs.length ≤ 1048576) : ∀ k, PinOk bs k := by
  intro k
  induction k using Nat.strongRecOn with
  | _ k ih =>
    intro x l a c p bcap w hk hT hBs
    obtain ⟨i0, hi, hz0, hz1, hz2⟩ := info_parts Tryz.info27
    have HT : Hid (TmAt w x a c l) := hT
    have HBs := hid hBs
    have IH : Hid (∀ j, j < k → PinOk bs j) := ih
    have hn : lenF l ≤ 9223372036854775807 := by have := hT.sizes.len; have := hT.sizes.cap; unfold maxLen at *; omega
    have hfew := hT.sizes.few
    clear hT ih hBs
    cases hnm : noName x.1 with
    | true =>
      have HP : Hid (pinN bs x l = (x, pinF bs l)) := hid (by unfold pinN; rw [if_pos hnm])
      have HX1 := hid (no_name hnm)
      have hnm' : x.1.toList.isEmpty = true := hnm
      go_enter Tryz.func16, Tryz.ntmps16
      go_wp2_with fail
      go_loopw [8] (fun i wr => ∃ (j : Nat) (v : Value) (ks : List Kv), j ≤ lenF l ∧ i = .int .i64 j ∧ Three w x a (lenF l) c wr v ∧ Built false w wr v j ks ∧ ks.map (fun k => (k.x, k.l)) = ((kidsL l).take j).map (fun y => pinN bs y.1 y.2)) (fun i _ => lenF l - (intOf i).toNat)
      case atStart => exact ⟨0, _, [], Nat.zero_le _, rfl, (by have h := Three.new w x a (lenF l) c; simp only [HX1.out] at h ⊢; exact h), ⟨World.ownsRow_nil _ _ _ _, by simp⟩, by simp⟩
      case round =>
        obtain ⟨j, v, ks, hj, rfl, hTh, hBu, hks⟩ := hrel
        have hb := hTh.low
        have bT := hTh.t
        have bX := hTh.x
        have hrow := hBu.row
        have t2 := bT.c2
        by_cases hlt : j < lenF l
        · obtain ⟨bb, oo, rfl, hkk⟩ := HT.out.args.get (by omega)
          obtain ⟨y, a1, c1, l1, kd⟩ := hkk.kid (k := j) hlt
          have kd' := kd.below hb
          have X0 : Hid (XBox wr (w.heap.size + 1 + 1) x v) := bX
          have cX := X0.out.c2
          have hbb : bb < w.heap.size := World.block_lt_of_cell? w _ kd.name
          have p0 := kd'.name; have p1 := kd'.sym; have p2 := kd'.list
          have hIH := IH.out (nodesF l1) (by have := kd.less; omega) y l1 a1 c1 p bcap wr.drew (Nat.le_refl _) (kd'.at_.kept (fun _ _ h => h)) (HBs.out.below hb.drew)
          obtain ⟨⟨y', m'⟩, hz⟩ : ∃ Z, pinN bs y l1 = Z := ⟨_, rfl⟩
          rw [hz] at hIH
          have HZ := hid hz
          have HIH : Hid (Calls Tryz.prog 16 #[.slice p bs.length bcap, .agg #[.string y.1, .int .i64 y.2, .slice a1 (lenF l1) c1]] wr.drew fun e w' => ∃ a' c', e = .returned (.agg #[.string y'.1, .int .i64 y'.2, .slice a' (lenF m') c']) ∧ RowTm wr.heap.size w' y' a' c' m' ∧ Below wr.heap.size wr.drew w') := hIH
          have HR : Hid (wr.ownsRow (w.heap.size + 3) 27 3 v j (kvCells ks)) := hrow
          have HB : Hid (Below w.heap.size w wr) := hb
          have TH : Hid (Three w x (some ⟨bb, oo, none⟩) (lenF l) c wr v) := hTh
          have BU : Hid (Built false w wr v j ks) := hBu
          have HK : Hid (ks.map (fun k => (k.x, k.l)) = ((kidsL l).take j).map (fun y => pinN bs y.1 y.2)) := hks
          have KD : Hid (Kid w l bb oo j y a1 c1 l1) := kd
          have hmax : maxLen = 9223372036854775807 := rfl
          have hXlt : w.heap.size + 1 + 1 < wr.heap.size := X0.out.lt
          clear hIH hz kd' hkk kd hrow hb hTh hBu hks bT bX
          go_wp2_with fail
          go_region_law
            ((first
              | (refine step_append_lies _ (by rfl) (.tmp 32) (.tmp 40) 25 (by rfl) (w.heap.size + 3) 27 i0 _ 3 48 Tryz.underlying25 hi hz0 hz1 hz2 rfl (by decide) v j (kvCells ks) (by rfl) (owns_below (owns_below HR.out HW1.out) ((Below.refl _ _).alloc (Nat.le_refl _) _)) ⟨w1.heap.size, 0, none⟩ 1 1 (Kv.cells ⟨y', m', a', c'⟩) (by rfl) rfl (World.news_of_block (heap_alloc_new w1 _)) (kv_one _) (by decide) (by omega) (by omega) (by have := HW1.out.size; simp; omega) _ rfl ?_; intro g3 cap3 w3 hown3 hgrow3 hat3 hlt3; have X3 : Hid (XBox w3 (w.heap.size + 1 + 1) x v) := X2.out.kept hgrow3 (fun e => by have := (owns_cells HR.out e.symm).1; omega); have cX3 := X3.out.c2; have fX3 := X3.out.f (k := 2); have HO3 : Hid (w3.ownsRow (w.heap.size + 3) 27 3 (.slice (some ⟨g3, 0, none⟩) (j + 1) cap3) (j + 1) (kvCells ks ++ Kv.cells ⟨y', m', a', c'⟩)) := hown3; have HG3 : Hid ((w1.alloc (.cells #[.string y'.1, .int .i64 y'.2, .slice a' (lenF m') c'] 27)).grownBy w3 v.ownBlock ∧ (v.ownBlock = some g3 ∨ g3 = w1.heap.size + 1)) := ⟨hgrow3, by simpa using hat3⟩; clear hown3 hgrow3 hat3)
              | (go_simp; go_wp2_with (go_at_call 16; refine HIH.out.mono ?_; rintro e w1 ⟨a', c', rfl, ho1, hb1⟩; have HO1 : Hid (OwnTm false (fun k => wr.heap.size ≤ k) w1 y' a' c' m') := ho1.own; have HW1 : Hid (Below wr.heap.size wr w1) := ((Below.refl _ wr).drew).trans hb1; have X1 : Hid (XBox w1 (w.heap.size + 1 + 1) x v) := X0.out.below HW1.out; have cX1 := X1.out.c2; have X2 : Hid (XBox (w1.alloc (.cells #[.string y'.1, .int .i64 y'.2, .slice a' (lenF m') c'] 27)) (w.heap.size + 1 + 1) x v) := X1.out.below ((Below.refl _ _).alloc (Nat.le_refl _) _); have cX2 := X2.out.c2; clear ho1 hb1))
              | fail))
          all_goals
            go_wp2
            go_roundw
            case rel =>
              obtain ⟨h1, h2⟩ := build_step (kv := ⟨y', m', a', c'⟩) TH.out BU.out HW1.out HO1.out HG3.out.1 HG3.out.2 HO3.out
              obtain ⟨B1, O1, sp⟩ := KD.out.split
              exact ⟨j + 1, _, _, by omega, by go_num, h1, h2, by rw [kids_take sp, List.map_append, List.map_append, HK.out]; show _ = _ ++ [pinN bs y l1]; rw [HZ.out]; rfl⟩
            case measure => simp [intOf]; omega
        · have hjl : j = lenF l := by omega
          subst hjl
          have hks' : ks.map (fun k => (k.x, k.l)) = kidsL (pinF bs l) := by rw [hks, ← kids_len, List.take_length, pinF_kids]
          obtain ⟨a3, c3, rfl, hrt⟩ := built_done (x := x) (l := pinF bs l) (by rw [pinF_len]; exact hBu) hks' HT.out.sizes.name (by rw [pinF_len]; exact HT.out.sizes.few)
          have x0 := bX.c0; have x1 := bX.c1; have x2 := bX.c2
          have R4 : XBox wr (w.heap.size + 1) (⟨#[]⟩, 0) (.slice none 0 0) := hTh.r
          have r0 := R4.c0
          have r1 := R4.c1
          have r2 := R4.c2
          have f0 := R4.f (k := 0)
          have f1 := R4.f (k := 1)
          have f2 := R4.f (k := 2)
          have HR4 : Hid (XBox wr (w.heap.size + 1) (⟨#[]⟩, 0) (.slice none 0 0)) := R4
          have HL : Hid (Below w.heap.size w wr) := hb
          have HRT : Hid (RowTm (w.heap.size + 3) wr x a3 c3 (pinF bs l)) := hrt
          clear R4 hTh hBu hks hks' hb bT bX hrow hrt
          go_wp2
          refine bodyPost_ret (results_cell_row rfl _ _ (w.heap.size + 1) 27 #[.string x.1, .int .i64 x.2, .slice a3 (lenF (pinF bs l)) c3] (0, 0) _ rfl (HR4.out.all (x := x) _) Tryz.underlying27 rfl Tryz.size27) rfl ?_
          rw [HP.out]
          refine ⟨a3, c3, rfl, ?_, sets_below HL.out (by omega) _ _ _⟩
          have h := HRT.out.keep (W' := (((wr.setCell ⟨w.heap.size + 1, 0, none⟩ (.string x.1)).setCell ⟨w.heap.size + 1, 1, none⟩ (.int .i64 x.2)).setCell ⟨w.heap.size + 1, 2, none⟩ (.slice a3 (lenF (pinF bs l)) c3))) (fun q hq _ => sets_far (by omega) _ _ _)
          exact ⟨h.sizes, by
            rcases h.list with h | ⟨g, cur, ha, hg, hc, hk⟩
            · exact .inl h
            · exact .inr ⟨g, cur, ha, by omega, hc, hk.mono (fun q _ hq => ⟨by omega, hq.2⟩)⟩⟩
    | false =>
      have hnm' : x.1.toList.isEmpty = false := hnm
      have HP : Hid (pinN bs x l = getN bs x.1) := hid (by unfold pinN; rw [if_neg (by rw [hnm]; decide)])
      obtain ⟨W0, hW0⟩ : ∃ W0, (w.alloc (.cells #[.string x.1, .int .i64 x.2, .slice a (lenF l) c] 27)).alloc (.cells #[.string ⟨#[]⟩, .int .i64 0, .slice none 0 0] 27) = W0 := ⟨_, rfl⟩
      have hb0 : Below w.heap.size w W0 := by rw [← hW0]; exact ((Below.refl _ w).alloc (Nat.le_refl _) _).alloc (by simp) _
      have b1 : XBox W0 w.heap.size x (.slice a (lenF l) c) := by rw [← hW0]; exact (Below.heap_alloc _ _ _ (by simp)).trans (World.alloc_heap_new w _)
      have b2 : XBox W0 (w.heap.size + 1) (⟨#[]⟩, 0) (.slice none 0 0) := by
        have := World.alloc_heap_new (w.alloc (.cells #[.string x.1, .int .i64 x.2, .slice a (lenF l) c] 27)) (.cells #[.string ⟨#[]⟩, .int .i64 0, .slice none 0 0] 27)
        rw [World.size_alloc] at this
        rw [← hW0]; exact this
      have hsz : W0.heap.size = w.heap.size + 2 := by rw [← hW0]; simp
      have HG := hid (rget_any p bcap bs x.1 W0 (HBs.out.below hb0) hbn)
      have z0 := b1.c0
      go_enter Tryz.func16, Tryz.ntmps16
      go_wp2_with fail
      clear hW0
      refine HG.out.mono ?_
      rintro e w1 ⟨hb1, hres⟩
      obtain ⟨t, a', c', bo, rfl, hT1, hs1⟩ : ∃ (t : Tn) (a' : Option Addr) (c' : Nat) (bo : Bool), e = .returned (.tuple #[.agg #[.string t.1.1, .int .i64 t.1.2, .slice a' (lenF t.2) c'], .bool bo]) ∧ TmAt w1 t.1 a' c' t.2 ∧ getN bs x.1 = t := by
        rcases hres with ⟨h1, rfl⟩ | ⟨t, a', c', h1, h2, rfl⟩
        · exact ⟨((x.1, 0), .nil), none, 0, false, rfl, ⟨⟨HT.out.sizes.name, Nat.le_refl _, by simp, by simp [lenF]⟩, .inl rfl⟩, by unfold getN; rw [h1]⟩
        · exact ⟨t, a', c', true, rfl, h2.below hb1, by unfold getN; rw [h1]⟩
      have bx := alloc_below0 w1 (.cells #[.string t.1.1, .int .i64 t.1.2, .slice a' (lenF t.2) c'] 27)
      have HC := hid (rclone_any t.1 t.2 a' c' (w1.alloc (.cells #[.string t.1.1, .int .i64 t.1.2, .slice a' (lenF t.2) c'] 27)) (hT1.below bx))
      have HY1 := hid ((b2.below hb1).below bx)
      have hl1 := hb0.trans (hb1.mono hb0.size)
      have HL := hid (hl1.trans (bx.mono hl1.size))
      have HS1 := hid hs1
      have hw1 : w.heap.size + 2 ≤ w1.heap.size := by have := hb1.size; omega
      clear hres hT1 bx hb1 hl1 HG z0 b1 b2 hs1 hb0
      go_wp2_with fail
      refine HC.out.mono ?_
      rintro e w3 ⟨a3, c3, rfl, hrt, hb3⟩
      have Y3 := HY1.out.below hb3
      have HY3 := hid Y3
      have HL3 := hid (HL.out.trans (hb3.mono HL.out.size))
      have r0 := Y3.c0; have r1 := Y3.c1; have r2 := Y3.c2
      have f0 := Y3.f (k := 0); have f1 := Y3.f (k := 1); have f2 := Y3.f (k := 2)
      have HRT := hid hrt
      clear Y3 hb3 HC hrt
      go_wp2_with fail
      refine bodyPost_ret (results_cell_row rfl _ _ (w.heap.size + 1) 27 #[.string t.1.1, .int .i64 t.1.2, .slice a3 (lenF t.2) c3] (0, 0) _ rfl (HY3.out.all (x := t.1) _) Tryz.underlying27 rfl Tryz.size27) rfl ?_
      rw [HP.out, HS1.out]
      refine ⟨a3, c3, rfl, ?_, sets_below HL3.out (by omega) _ _ _⟩
      have h := HRT.out.keep (W' := (((w3.setCell ⟨w.heap.size + 1, 0, none⟩ (.string t.1.1)).setCell ⟨w.heap.size + 1, 1, none⟩ (.int .i64 t.1.2)).setCell ⟨w.heap.size + 1, 2, none⟩ (.slice a3 (lenF t.2) c3))) (fun q hq _ => sets_far (by simp only [World.size_alloc] at hq; omega) _ _ _)
      exact ⟨h.sizes, by
        rcases h.list with h | ⟨g, cur, ha, hg, hc, hk⟩
        · exact .inl h
        · simp only [World.size_alloc] at hg hk
          exact .inr ⟨g, cur, ha, by omega, hc, hk.mono (fun q _ hq => ⟨by omega, hq.2⟩)⟩⟩
end Go.Proofs.YtgcnjpiiofjljaaGreatDoor
