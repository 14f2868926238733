/- Texts laid together: PSort, PUnit, TBackP, CanR, PCan, PKind, PSettle, PTog. -/
import Derived.Shelf.SlSortCmp.NoneTotal
import Derived.Test.YtgidgmgpgfonnabM3
/- What slices.SortFunc makes of a row of terms by Compare of package terms: the row in order, all else as it was. -/
namespace Go.Proofs.Ytgidgmgpgfonnab
open Go.RowKit Go.Deep

/-- Only blocks of A have turned. -/
structure Turned (A : Bl) (w w' : World) : Prop where
  os : w'.os = w.os
  tape : w'.tape = w.tape
  output : w'.output = w.output
  size : w.heap.size ≤ w'.heap.size
  block : ∀ k, k < w.heap.size → ¬ A k → w'.heap[k]? = w.heap[k]?
theorem Turned.refl (A : Bl) (w : World) : Turned A w w := ⟨rfl, rfl, rfl, Nat.le_refl _, fun _ _ _ => rfl⟩
theorem Turned.trans {A : Bl} {a b c : World} (h : Turned A a b) (k : Turned A b c) : Turned A a c :=
  ⟨k.os.trans h.os, k.tape.trans h.tape, k.output.trans h.output, Nat.le_trans h.size k.size, fun q hq hA => (k.block q (Nat.lt_of_lt_of_le hq h.size) hA).trans (h.block q hq hA)⟩
theorem Turned.mono {A A' : Bl} {w w' : World} (h : Turned A w w') (hA : ∀ q, q < w.heap.size → A q → A' q) : Turned A' w w' := ⟨h.os, h.tape, h.output, h.size, fun q hq hn => h.block q hq fun ha => hn (hA q hq ha)⟩
theorem Turned.of_below {w w' : World} (h : Below w.heap.size w w') (A : Bl) : Turned A w w' := ⟨h.os, h.tape, h.output, h.size, fun q hq _ => h.block q hq⟩
theorem Turned.below {A : Bl} {B : Nat} {w w' : World} (h : Turned A w w') (hA : ∀ q, A q → B ≤ q) (hB : B ≤ w.heap.size) : Below B w w' := ⟨h.os, h.tape, h.output, h.size, fun q hq => h.block q (by omega) (fun ha => by have := hA q ha; omega)⟩

theorem kvCells_nth : ∀ (ks : List Kv) (i c : Nat) {k : Kv}, ks[i]? = some k → c < 3 → (kvCells ks)[i * 3 + c]? = k.cells[c]?
  | [], _, _, _, h, _ => by simp at h
  | k :: r, 0, c, k', h, hc => by
    simp only [List.getElem?_cons_zero, Option.some.injEq] at h
    subst h
    show (k.cells ++ kvCells r)[0 * 3 + c]? = _
    rw [Nat.zero_mul, Nat.zero_add, List.getElem?_append_left (by simpa [Kv.cells] using hc)]
  | k :: r, i + 1, c, k', h, hc => by
    simp only [List.getElem?_cons_succ] at h
    show (k.cells ++ kvCells r)[(i + 1) * 3 + c]? = _
    rw [List.getElem?_append_right (by simp [Kv.cells]; omega), show (i + 1) * 3 + c - k.cells.length = i * 3 + c by simp [Kv.cells]; omega]
    exact kvCells_nth r i c h hc

abbrev Gd (w : World) (g : Nat) (k : Kv) : Prop := ∃ A : Bl, SepE w A k ∧ ¬ A g
def leafK : Kv := ⟨(⟨#[]⟩, 0), .nil, none, 0⟩
theorem gd_leaf (w : World) (g : Nat) : Gd w g leafK := ⟨fun _ => False, ⟨⟨by decide, Nat.le_refl _, Nat.zero_le _, by simp [leafK, lenF]⟩, .inl rfl⟩, fun h => h⟩
abbrev GdK (w : World) (g : Nat) := { k : Kv // Gd w g k }
def encG {w : World} {g : Nat} (k : GdK w g) : List Value := k.1.cells
def cmpG {w : World} {g : Nat} (x y : GdK w g) : Int := cmpN x.1.tn y.1.tn
theorem swoG {w : World} {g : Nat} : Sort.SWO (ltOf (cmpG (w := w) (g := g))) where
  irrefl x := by
    have := cmpN_anti x.1.tn x.1.tn
    unfold ltOf cmpG
    rw [decide_eq_false_iff_not]
    omega
  trans x y z h1 h2 := by
    unfold ltOf cmpG at *
    rw [decide_eq_true_iff] at *
    exact (cmpN_cons x.1.tn y.1.tn z.1.tn).lt h1 h2
  ntrans x y z h1 h2 := by
    unfold ltOf cmpG at *
    rw [decide_eq_false_iff_not] at *
    have a1 := cmpN_anti x.1.tn y.1.tn
    have a2 := cmpN_anti y.1.tn z.1.tn
    have a3 := cmpN_anti x.1.tn z.1.tn
    have : leN z.1.tn x.1.tn := leN_trans (y := y.1.tn) (by unfold leN; omega) (by unfold leN; omega)
    unfold leN at this
    omega
theorem heap_sortK {α : Type} [Inhabited α] (enc : α → List Value) (w : World) (g m : Nat) (d : Array α) (os : Array Obj) {q : Nat} (hq : q < w.heap.size) :
    (sortWorldK enc 3 w g 0 m d os).heap[q]? = if q = g then (w.heap[q]?).map (Sort.onCells (Sort.putCells id 0 (Sort.flatK enc 3 d))) else w.heap[q]? := by
  unfold sortWorldK
  rw [Sort.heap_grow_old _ _ (by unfold Sort.putRowK; rw [Sort.size_putRow]; exact hq)]
  unfold Sort.putRowK Sort.putRow Sort.mapBlock
  simp only [Array.getElem?_modify, Sort.ahead]
  by_cases e : q = g
  · subst e; simp
  · rw [if_neg e, if_neg (fun h => e h.symm)]

set_option maxRecDepth 100000 in
theorem cmp_lays (w : World) (g n : Nat) [Inhabited (GdK w g)] : CmpLays Try.prog 52 #[] (encG (w := w) (g := g)) 3 cmpG g 0 n w := by
  intro m os dk _ x y
  have tm : ∀ k : GdK w g, TmAt (sortWorldK (encG (w := w) (g := g)) 3 w g 0 m dk os) k.1.x k.1.a k.1.c k.1.l := fun k => by
    obtain ⟨k, A, hA, hg⟩ := k
    refine SepTm.tm (SepTm.keep (A := A) (fun q hq hlt => ?_) hA)
    rw [heap_sortK _ _ _ _ _ _ hlt, if_neg (by intro e; subst e; exact hg hq)]
  refine (compare_all _ x.1.x y.1.x x.1.a y.1.a x.1.c y.1.c x.1.l y.1.l _ (Nat.le_refl _) (tm x) (tm y)).mono ?_
  rintro e w' ⟨rfl, os', rfl⟩
  exact ⟨rfl, 0, os', rfl⟩

theorem Try.enter50 : ∀ args w, (callFunc 52 args).run Try.prog w = .ok (.enter 52 args) w := enters_of Try.func52 (by kernel_rfl) rfl

set_option maxRecDepth 100000 in
theorem sort_terms (w : World) (g cap : Nat) (cur : Array Value) (ks : List Kv) (A : Bl) (hg : w.heap[g]? = some (Obj.cells cur 27 (0, 0))) (hc : ∀ (j : Nat) (u : Value), (kvCells ks)[j]? = some u → cur[j]? = some u) (hks : GL SepE w ks A) (hA : ¬ A g) (hn : ks.length < 4611686018427387904) :
    Calls Try.prog 51 #[.slice (some ⟨g, 0, none⟩) ks.length cap, .func (.func 52) #[] #[]] w fun e w' => e = .returned (.tuple #[]) ∧ ∃ (ms : List Kv) (cur' : Array Value), List.Perm ms ks ∧ Srt (ms.map Kv.tn) ∧ w'.heap[g]? = some (Obj.cells cur' 27 (0, 0)) ∧ cur'.size = cur.size ∧
      (∀ (j : Nat) (u : Value), (kvCells ms)[j]? = some u → cur'[j]? = some u) ∧ Turned (fun q => q = g) w w' := by
  letI : Inhabited (GdK w g) := ⟨⟨leafK, gd_leaf w g⟩⟩
  have hgd : ∀ k ∈ ks, Gd w g k := fun k hk => by
    obtain ⟨A1, h1, h2⟩ := hks.mem hk
    exact ⟨A1, h2, fun h => hA (h1 g h)⟩
  have hglt : g < w.heap.size := (Array.getElem?_eq_some_iff.1 hg).1
  let d : Array (GdK w g) := (ks.attachWith (Gd w g) hgd).toArray
  have hds : d.size = ks.length := by simp [d]
  have hdl : d.toList.map Subtype.val = ks := by simp [d]
  have cellAt : ∀ (d : Array (GdK w g)) (j : Nat), j < d.size * 3 → (kvCells (d.toList.map Subtype.val))[j]? = some (Sort.flatK encG 3 d)[j]! := fun d j hj => by
    rw [Sort.get_flatK _ _ _ _ hj]
    have hi : j / 3 < d.size := by omega
    have h1 : (d.toList.map Subtype.val)[j / 3]? = some (d[j / 3]!).1 := by
      rw [List.getElem?_map, Array.getElem?_toList, Array.getElem?_eq_getElem hi, getElem!_pos d _ hi]; rfl
    have h2 := kvCells_nth _ (j / 3) (j % 3) h1 (by omega)
    rw [show j / 3 * 3 + j % 3 = j by omega] at h2
    rw [h2]
    have hl : j % 3 < (encG d[j / 3]!).length := by show _ < 3; omega
    rw [getElem!_pos (encG d[j / 3]!) (j % 3) hl]
    exact List.getElem?_eq_getElem hl
  have hH : Sort.HoldsK encG 3 w g 0 d := fun j hj => by
    rw [Sort.size_flatK] at hj
    have h1 := cellAt d j hj
    rw [hdl] at h1
    refine ⟨?_, by simp [World.frozen?, hg]⟩
    rw [Nat.zero_add, cell_of_row w g j cur 27 (0, 0) hg]
    exact hc j _ h1
  have hs := AnyQ.slices_SortFunc Try.sortT 3 Try.isAgg27 Try.sizeOf27 encG (fun _ => rfl) (fun x v hv => kv_one x.1 v hv) cmpG swoG 52 #[] g 0 cap d w Try.enter50 (cmp_lays w g d.size) hH hglt (by rw [hds]; exact hn)
  rw [hds] at hs
  refine Calls.mono hs ?_
  rintro e w' ⟨rfl, d', n, os, hp, hso, rfl⟩
  obtain ⟨p1, _, p3⟩ := hp
  have hd's : d'.size = ks.length := p1.trans hds
  have hperm : List.Perm (d'.toList.map Subtype.val) ks := by
    have e1 : (d'.extract 0 ks.length).toList = d'.toList := by rw [← hd's]; simp
    have e2 : (d.extract 0 ks.length).toList = d.toList := by rw [← hds]; simp
    rw [e1, e2] at p3
    have := p3.map Subtype.val
    rwa [hdl] at this
  have hsz : (Sort.putCells id 0 (Sort.flatK encG 3 d') cur).size = cur.size := by simp [Sort.putCells]
  refine ⟨rfl, d'.toList.map Subtype.val, Sort.putCells id 0 (Sort.flatK encG 3 d') cur, hperm, ?_, ?_, hsz, ?_, ?_⟩
  · unfold Srt
    rw [List.pairwise_iff_getElem]
    intro i j hi hj hij
    simp only [List.length_map, Array.length_toList] at hi hj
    have h1 := hso i j (Nat.zero_le _) hij (by omega)
    unfold ltOf cmpG at h1
    rw [decide_eq_false_iff_not, getElem!_pos d' i hi, getElem!_pos d' j hj] at h1
    simp only [List.getElem_map, Array.getElem_toList]
    have := cmpN_anti (d'[i]).1.tn (d'[j]).1.tn
    unfold leN
    omega
  · rw [heap_sortK _ _ _ _ _ _ hglt, if_pos rfl, hg]
    rfl
  · intro j u hu
    have hj : j < d'.size * 3 := by
      rcases Nat.lt_or_ge j (d'.size * 3) with h' | h'
      · exact h'
      · rw [List.getElem?_eq_none (by rw [kvCells_len, List.length_map, Array.length_toList]; exact h')] at hu; cases hu
    have h1 := cellAt d' j hj
    rw [hu] at h1
    have hjc : j < cur.size := by
      obtain ⟨u', hu'⟩ := kvCells_get (ks := ks) (j := j) (by omega)
      have := hc j u' hu'
      exact (Array.getElem?_eq_some_iff.1 this).1
    unfold Sort.putCells
    rw [Array.getElem?_mapIdx, Array.getElem?_eq_getElem hjc, Option.map_some, if_pos ⟨Nat.zero_le _, by rw [Sort.size_flatK]; omega⟩, Nat.sub_zero]
    exact h1.symm
  · refine ⟨rfl, rfl, rfl, ?_, fun q hq hne => ?_⟩
    · unfold sortWorldK Sort.putRowK
      rw [Sort.size_grow, Sort.size_putRow]
      exact Nat.le_add_right _ _
    · rw [heap_sortK _ _ _ _ _ _ hq, if_neg hne]
end Go.Proofs.Ytgidgmgpgfonnab
/- What Find and Unit of package sig answer. -/
namespace Go.Proofs.Ytgidgmgpgfonnab
open Go.RowKit

set_option maxHeartbeats 400000 in
theorem sfind_any (a : Option Addr) (n cap : Nat) (l : List Sym) (nm : ByteArray) (w : World) (h : SigAt w a n l) :
    Calls Try.prog 79 #[.slice a n cap, .string nm] w fun e w' => FindRet l nm e ∧ Below w.heap.size w w' := by
  obtain ⟨hl, hm, hcells, _⟩ := h
  unfold maxLen at hm
  have HL : Hid (n = l.length) := hl
  clear hl
  have HC : Hid (∀ i (h : i < l.length), ∃ b off, a = some ⟨b, off, none⟩ ∧ SymAt w b (off + i * 4) l[i]) := hcells
  clear hcells
  go_enter Try.func79, Try.ntmps79
  go_wp2
  go_loopw [6, 7, 10] (fun _ _ i w' => ∃ k : Nat, k ≤ n ∧ i = .int .i64 k ∧ Below w.heap.size w w' ∧ ∀ j (hj : j < l.length), j < k → sameB l[j].name nm = false) (fun _ _ i _ => n - (intOf i).toNat)
  case atStart => exact ⟨0, Nat.zero_le _, rfl, Below.refl _ _, fun j _ h => absurd h (by omega)⟩
  case round =>
    obtain ⟨k, hk, rfl, hb, hno⟩ := hrel
    have HN : Hid (∀ j (hj : j < l.length), j < k → sameB l[j].name nm = false) := hno
    clear hno
    by_cases hlt : k < n
    · have hlk : k < l.length := by have := HL.out; omega
      obtain ⟨b, off, rfl, hsym⟩ := HC.out k hlk
      have hw := hsym.below hb
      have c0 := hw.name
      have c1 := hw.kind
      have c2 := hw.arity
      have c3 := hw.unit
      clear hw hsym
      cases ht : (l[k].name.toList == nm.toList)
      · go_wp2
        go_roundw
        case rel => exact ⟨k + 1, by omega, by go_num, hb.alloc hb.size _, fun j hj h => by
          rcases Nat.lt_succ_iff_lt_or_eq.1 h with h | rfl
          · exact HN.out j hj h
          · exact ht⟩
        case measure => simp [intOf]; omega
      · have hf : Hid (findL l nm = some k) := find_hit hlk ht HN.out
        go_wp2
        go_ret2
        exact ⟨by unfold FindRet; rw [findI_some hf.out, findB_some hf.out]; rfl, hb.alloc hb.size _⟩
    · have hf : Hid (findL l nm = none) := find_miss fun j hj => HN.out j hj (by have := HL.out; omega)
      go_wp2
      go_ret2
      exact ⟨by unfold FindRet; rw [findI_none hf.out, findB_none hf.out]; rfl, hb⟩

set_option maxHeartbeats 400000 in
theorem sunit_any (a : Option Addr) (n cap : Nat) (l : List Sym) (z : Int) (w : World) (h : SigAt w a n l) :
    Calls Try.prog 62 #[.slice a n cap, .int .i64 z] w fun e w' => UnitRet l z e ∧ Below w.heap.size w w' := by
  have HS : Hid (SigAt w a n l) := h
  have hm := h.small
  unfold maxLen at hm
  clear h
  by_cases h0 : z < 0
  · have hu : Hid (unitAt l z = none) := unit_out (by omega)
    go_enter Try.func62, Try.ntmps62
    go_wp2
    go_ret2
    exact ⟨by unfold UnitRet; rw [unitI_none hu.out, unitOk_none hu.out]; rfl, Below.refl _ _⟩
  · obtain ⟨k, rfl⟩ := Int.eq_ofNat_of_zero_le (by omega : 0 ≤ z)
    by_cases h1 : (n : Int) ≤ k
    · have hu : Hid (unitAt l k = none) := unit_out (by have := HS.out.len; omega)
      go_enter Try.func62, Try.ntmps62
      go_wp2
      go_ret2
      exact ⟨by unfold UnitRet; rw [unitI_none hu.out, unitOk_none hu.out]; rfl, Below.refl _ _⟩
    · have hlk : k < l.length := by have := HS.out.len; omega
      obtain ⟨b, off, rfl, hw⟩ := HS.out.cells k hlk
      have c1 := hw.kind
      have c3 := hw.unit
      clear hw
      cases hk : (l[k].kind != 3)
      · have hu : Hid (unitAt l k = findL l l[k].unit) := unit_is hlk (by simpa using hk)
        go_enter Try.func62, Try.ntmps62
        go_wp2_with fail
        refine (sfind_any _ _ _ l _ _ HS.out).mono ?_
        rintro e w1 ⟨he, hb⟩
        unfold FindRet at he
        subst he
        go_wp2
        go_ret2
        exact ⟨by unfold UnitRet; rw [unitI_is hu.out, unitOk_is hu.out]; rfl, hb⟩
      · have hu : Hid (unitAt l k = none) := unit_not hlk (by simpa using hk)
        go_enter Try.func62, Try.ntmps62
        go_wp2
        go_ret2
        exact ⟨by unfold UnitRet; rw [unitI_none hu.out, unitOk_none hu.out]; rfl, Below.refl _ _⟩

end Go.Proofs.Ytgidgmgpgfonnab
/- What is put in is told there; what is told, put in, makes the term again; how many nodes there are then. -/
namespace Go.Proofs.Ytgidgmgpgfonnab
open Go.RowKit Go.Deep

theorem kids_set : ∀ (n : Nat) (F : Fo) (t : Tn), n < lenF F → (kidsL (setF n F t))[n]? = some t
  | n, .nil, _, h => by simp [lenF] at h
  | 0, .node _ _ _ _ _, t, _ => by simp [setF, kidsL]
  | n + 1, .node _ _ _ _ r, t, h => by
    simp only [setF, kidsL, List.getElem?_cons_succ]
    exact kids_set n r t (by simp only [lenF] at h; omega)
theorem set_same : ∀ (n : Nat) (F : Fo) (t : Tn), (kidsL F)[n]? = some t → setF n F t = F
  | n, .nil, _, h => by simp [kidsL] at h
  | 0, .node _ _ _ _ _, t, h => by
    simp only [kidsL, List.getElem?_cons_zero, Option.some.injEq] at h
    subst h
    rfl
  | n + 1, .node _ _ _ _ r, t, h => by
    simp only [kidsL, List.getElem?_cons_succ] at h
    simp only [setF]
    rw [set_same n r t h]
theorem nodes_set : ∀ (n : Nat) (F : Fo) (t u : Tn), (kidsL F)[n]? = some t → nodesF (setF n F u) + nodesF t.2 = nodesF F + nodesF u.2
  | n, .nil, _, _, h => by simp [kidsL] at h
  | 0, .node _ _ _ l r, t, u, h => by
    simp only [kidsL, List.getElem?_cons_zero, Option.some.injEq] at h
    subst h
    simp only [setF, nodesF]
    omega
  | n + 1, .node _ _ _ _ r, t, u, h => by
    simp only [kidsL, List.getElem?_cons_succ] at h
    have := nodes_set n r t u h
    simp only [setF, nodesF]
    omega
theorem kidT_get {i : Int} {l : Fo} {k : Tn} (h : kidT i l = some k) : (0 ≤ i ∧ i < lenF l) ∧ (kidsL l)[i.toNat]? = some k := by
  unfold kidT at h
  split at h
  · exact ⟨by assumption, h⟩
  · cases h
theorem kidT_set {i : Int} {l : Fo} {k : Tn} (u : Tn) (h : kidT i l = some k) : kidT i (setF i.toNat l u) = some u := by
  obtain ⟨⟨h0, h1⟩, _⟩ := kidT_get h
  unfold kidT
  rw [len_set, if_pos ⟨h0, h1⟩]
  exact kids_set _ _ _ (by omega)
theorem put_some (u : Tn) : ∀ (ps : List Int) (t x : Tn), subT ps t = some x → ∃ y, putT u ps t = some y
  | [], _, _, _ => ⟨u, rfl⟩
  | i :: p, t, x, h => by
    simp only [subT] at h
    cases hk : kidT i t.2 with
    | none => rw [hk] at h; cases h
    | some k =>
      rw [hk] at h
      obtain ⟨y, hy⟩ := put_some u p k x h
      exact ⟨(t.1, setF i.toNat t.2 y), by simp only [putT, hk, hy]⟩
theorem back_at (u : Tn) : ∀ (ps : List Int) (t y : Tn), putT u ps t = some y → subT ps y = some u
  | [], _, _, h => by simp only [putT] at h; rw [subT, ← h]
  | i :: p, t, y, h => by
    simp only [putT] at h
    cases hk : kidT i t.2 with
    | none => rw [hk] at h; cases h
    | some k =>
      rw [hk] at h
      dsimp only at h
      cases hp : putT u p k with
      | none => rw [hp] at h; cases h
      | some k' =>
        rw [hp] at h
        simp only [Option.some.injEq] at h
        subst h
        simp only [subT, kidT_set k' hk]
        exact back_at u p k k' hp
theorem back_put : ∀ (ps : List Int) (t x : Tn), subT ps t = some x → putT x ps t = some t
  | [], _, _, h => by simp only [subT] at h; rw [putT, h]
  | i :: p, t, x, h => by
    simp only [subT] at h
    cases hk : kidT i t.2 with
    | none => rw [hk] at h; cases h
    | some k =>
      rw [hk] at h
      simp only [putT, hk, back_put p k x h]
      rw [set_same _ _ _ (kidT_get hk).2]
theorem back_size (u : Tn) : ∀ (ps : List Int) (t x y : Tn), subT ps t = some x → putT u ps t = some y → nodesF y.2 + nodesF x.2 = nodesF t.2 + nodesF u.2
  | [], _, _, _, h, h2 => by
    simp only [subT, Option.some.injEq] at h
    simp only [putT, Option.some.injEq] at h2
    subst h h2
    omega
  | i :: p, t, x, y, h, h2 => by
    simp only [subT] at h
    simp only [putT] at h2
    cases hk : kidT i t.2 with
    | none => rw [hk] at h; cases h
    | some k =>
      rw [hk] at h h2
      dsimp only at h2
      cases hp : putT u p k with
      | none => rw [hp] at h2; cases h2
      | some k' =>
        rw [hp] at h2
        simp only [Option.some.injEq] at h2
        subst h2
        have h3 := back_size u p k x k' h hp
        have h4 := nodes_set _ _ _ k' (kidT_get hk).2
        show nodesF (setF i.toNat t.2 k') + nodesF x.2 = nodesF t.2 + nodesF u.2
        omega

end Go.Proofs.Ytgidgmgpgfonnab
/- Canonical forms, without any program: the axioms, cancelling, another argument in one place, another term at any place. -/
namespace Go.Proofs.Ytgidgmgpgfonnab
open Go.RowKit Go.Deep

/-- The parts that a term's canonical form gives to a symbol. -/
def pc (S : Sg) (f : Int) (t : Tn) : List Tn := partsN S f (canonT S t)
theorem canonT_parts {S : Sg} {ar : Int → Nat} (hS : S.Ok ar) {t : Tn} (hj : S.joins t.1.2 = true) (hx : noName t.1.1 = true) (h : RightT S ar t) : List.Perm (pc S t.1.2 t) ((kidsL t.2).flatMap (pc S t.1.2)) := by
  have hc := canonL_can hS h.2
  have hn := h.1
  unfold nodeOk at hn
  rw [if_neg (by simp [hx]), if_pos hj, ← kids_len] at hn
  have hne : canonL S t.2 ≠ [] := fun e => by
    rw [canonL_map, List.map_eq_nil_iff] at e
    rw [e] at hn
    simp at hn
  have h1 := parts_join hj (flat_good hj hc) (canon1_join hx hj hc hne)
  refine (show List.Perm (pc S t.1.2 t) _ from h1).trans ?_
  rw [canonL_map, List.flatMap_map]
  exact List.Perm.refl _
theorem eq_iff {S : Sg} {ar : Int → Nat} (hS : S.Ok ar) {f : Int} (hj : S.joins f = true) {x y : Tn} (hx : RightT S ar x) (hy : RightT S ar y) : canonT S x = canonT S y ↔ List.Perm (pc S f x) (pc S f y) :=
  ⟨fun e => by unfold pc; rw [e], parts_inj hj (canonT_can hS hx) (canonT_can hS hy)⟩

/-! ### the axioms -/
def appT (f : Int) (l : List Tn) : Tn := ((noB, f), mkF l)
theorem right_app {S : Sg} {ar : Int → Nat} {f : Int} {l : List Tn} (hj : S.joins f = true) (h2 : 2 ≤ l.length) (h : ∀ t ∈ l, RightT S ar t) : RightT S ar (appT f l) := by
  refine ⟨?_, right_kids.2 (by rw [show kidsL (appT f l).2 = l from kids_mk l]; exact h)⟩
  unfold nodeOk appT
  dsimp only
  rw [if_neg (by simp [noName_noB]), if_pos hj, len_mk]
  exact h2
theorem pc_app {S : Sg} {ar : Int → Nat} (hS : S.Ok ar) {f : Int} {l : List Tn} (hj : S.joins f = true) (h2 : 2 ≤ l.length) (h : ∀ t ∈ l, RightT S ar t) : List.Perm (pc S f (appT f l)) (l.flatMap (pc S f)) := by
  have h1 := canonT_parts hS (t := appT f l) hj noName_noB (right_app hj h2 h)
  rw [show kidsL (appT f l).2 = l from kids_mk l] at h1
  exact h1
theorem right2 {S : Sg} {ar : Int → Nat} {f : Int} (hj : S.joins f = true) {x y : Tn} (hx : RightT S ar x) (hy : RightT S ar y) : RightT S ar (appT f [x, y]) := right_app hj (by simp) (by simp; exact ⟨hx, hy⟩)
theorem right3 {S : Sg} {ar : Int → Nat} {f : Int} (hj : S.joins f = true) {x y z : Tn} (hx : RightT S ar x) (hy : RightT S ar y) (hz : RightT S ar z) : RightT S ar (appT f [x, y, z]) := right_app hj (by simp) (by simp; exact ⟨hx, hy, hz⟩)
theorem pc2 {S : Sg} {ar : Int → Nat} (hS : S.Ok ar) {f : Int} (hj : S.joins f = true) {x y : Tn} (hx : RightT S ar x) (hy : RightT S ar y) : List.Perm (pc S f (appT f [x, y])) (pc S f x ++ pc S f y) := by
  have := pc_app hS hj (l := [x, y]) (by simp) (by simp; exact ⟨hx, hy⟩)
  simpa using this
theorem ax_turn {S : Sg} {ar : Int → Nat} (hS : S.Ok ar) {f : Int} (hj : S.joins f = true) {x y : Tn} (hx : RightT S ar x) (hy : RightT S ar y) : canonT S (appT f [x, y]) = canonT S (appT f [y, x]) :=
  (eq_iff hS hj (right2 hj hx hy) (right2 hj hy hx)).2 ((pc2 hS hj hx hy).trans (List.perm_append_comm.trans (pc2 hS hj hy hx).symm))
theorem pc3 {S : Sg} {ar : Int → Nat} (hS : S.Ok ar) {f : Int} (hj : S.joins f = true) {x y z : Tn} (hx : RightT S ar x) (hy : RightT S ar y) (hz : RightT S ar z) : List.Perm (pc S f (appT f [x, y, z])) (pc S f x ++ (pc S f y ++ pc S f z)) := by
  have := pc_app hS hj (l := [x, y, z]) (by simp) (by simp; exact ⟨hx, hy, hz⟩)
  simpa using this
theorem ax_flat {S : Sg} {ar : Int → Nat} (hS : S.Ok ar) {f : Int} (hj : S.joins f = true) {x y z : Tn} (hx : RightT S ar x) (hy : RightT S ar y) (hz : RightT S ar z) : canonT S (appT f [x, y, z]) = canonT S (appT f [x, appT f [y, z]]) :=
  (eq_iff hS hj (right3 hj hx hy hz) (right2 hj hx (right2 hj hy hz))).2
    ((pc3 hS hj hx hy hz).trans ((pc2 hS hj hx (right2 hj hy hz)).trans ((pc2 hS hj hy hz).append_left _)).symm)
theorem ax_left {S : Sg} {ar : Int → Nat} (hS : S.Ok ar) {f : Int} (hj : S.joins f = true) {x y z : Tn} (hx : RightT S ar x) (hy : RightT S ar y) (hz : RightT S ar z) : canonT S (appT f [x, appT f [y, z]]) = canonT S (appT f [appT f [x, y], z]) := by
  rw [← ax_flat hS hj hx hy hz]
  refine (eq_iff hS hj (right3 hj hx hy hz) (right2 hj (right2 hj hx hy) hz)).2 ((pc3 hS hj hx hy hz).trans ?_)
  refine ((pc2 hS hj (right2 hj hx hy) hz).trans (((pc2 hS hj hx hy).append_right _).trans ?_)).symm
  rw [List.append_assoc]
theorem cancels {S : Sg} {ar : Int → Nat} (hS : S.Ok ar) {f : Int} (hj : S.joins f = true) {x y z : Tn} (hx : RightT S ar x) (hy : RightT S ar y) (hz : RightT S ar z) : canonT S (appT f [x, y]) = canonT S (appT f [x, z]) ↔ canonT S y = canonT S z := by
  rw [eq_iff hS hj (right2 hj hx hy) (right2 hj hx hz), eq_iff hS hj hy hz]
  constructor
  · intro h
    exact (List.perm_append_left_iff _).1 ((pc2 hS hj hx hy).symm.trans (h.trans (pc2 hS hj hx hz)))
  · intro h
    exact (pc2 hS hj hx hy).trans ((h.append_left _).trans (pc2 hS hj hx hz).symm)
theorem right_const {S : Sg} {ar : Int → Nat} (hS : S.Ok ar) {f u : Int} (hu : S.unit f = some u) : RightT S ar (constT u) := by
  refine ⟨?_, trivial⟩
  unfold nodeOk constT
  dsimp only
  rw [if_neg (by simp [noName_noB]), if_neg (by simp [hS.free f u hu]), hS.none f u hu]
  rfl
theorem canon_const {S : Sg} {ar : Int → Nat} (hS : S.Ok ar) {f u : Int} (hu : S.unit f = some u) : canonT S (constT u) = constT u := by
  unfold canonT canon1 constT
  dsimp only
  rw [if_neg (by simp [noName_noB]), if_neg (by simp [hS.free f u hu])]
  rfl
theorem pc_const {S : Sg} {ar : Int → Nat} (hS : S.Ok ar) {f u : Int} (hj : S.joins f = true) (hu : S.unit f = some u) : pc S f (constT u) = [] := by
  unfold pc partsN
  rw [canon_const hS hu, if_neg (by simp [hj]), isUn_const hu]
  simp
theorem ax_unit {S : Sg} {ar : Int → Nat} (hS : S.Ok ar) {f u : Int} (hj : S.joins f = true) (hu : S.unit f = some u) {x : Tn} (hx : RightT S ar x) : canonT S (appT f [x, constT u]) = canonT S x := by
  refine (eq_iff hS hj (right2 hj hx (right_const hS hu)) hx).2 ((pc2 hS hj hx (right_const hS hu)).trans ?_)
  rw [pc_const hS hj hu, List.append_nil]
theorem ax_unit3 {S : Sg} {ar : Int → Nat} (hS : S.Ok ar) {f u : Int} (hj : S.joins f = true) (hu : S.unit f = some u) {x y : Tn} (hx : RightT S ar x) (hy : RightT S ar y) : canonT S (appT f [x, y, constT u]) = canonT S (appT f [x, y]) := by
  refine (eq_iff hS hj (right3 hj hx hy (right_const hS hu)) (right2 hj hx hy)).2 ((pc3 hS hj hx hy (right_const hS hu)).trans ((pc2 hS hj hx hy).trans ?_).symm)
  rw [pc_const hS hj hu, List.append_nil]

/-! ### another argument in one place -/
theorem kids_setF : ∀ (n : Nat) (F : Fo) (t : Tn), kidsL (setF n F t) = (kidsL F).set n t
  | n, .nil, _ => by cases n <;> rfl
  | 0, .node _ _ _ _ _, _ => rfl
  | n + 1, .node _ _ _ _ r, t => by simp only [setF, kidsL, List.set_cons_succ]; rw [kids_setF n r t]
theorem mkF_inj {l m : List Tn} (h : mkF l = mkF m) : l = m := by
  have := congrArg kidsL h
  rwa [kids_mk, kids_mk] at this
theorem set_split {α : Type} : ∀ {l : List α} {n : Nat} {a : α}, l[n]? = some a → ∃ l1 l2, l = l1 ++ a :: l2 ∧ ∀ b, l.set n b = l1 ++ b :: l2
  | [], _, _, h => by simp at h
  | x :: r, 0, a, h => by simp at h; subst h; exact ⟨[], r, rfl, fun _ => rfl⟩
  | x :: r, n + 1, a, h => by
    simp only [List.getElem?_cons_succ] at h
    obtain ⟨l1, l2, h1, h2⟩ := set_split h
    exact ⟨x :: l1, l2, by rw [h1]; rfl, fun b => by rw [List.set_cons_succ, h2]; rfl⟩
theorem right_set {S : Sg} {ar : Int → Nat} {t b : Tn} {n : Nat} (ht : RightT S ar t) (hb : RightT S ar b) : RightT S ar (t.1, setF n t.2 b) := by
  refine ⟨by rw [len_set]; exact ht.1, right_kids.2 (fun k hk => ?_)⟩
  rw [kids_setF] at hk
  rcases List.mem_or_eq_of_mem_set hk with h | h
  · exact right_kids.1 ht.2 k h
  · rw [h]; exact hb
theorem canon_free {S : Sg} {t : Tn} (hx : noName t.1.1 = true) (hj : S.joins t.1.2 = false) : canonT S t = ((noB, t.1.2), mkF ((kidsL t.2).map (canonT S))) := by
  unfold canonT canon1
  rw [if_neg (by simp [hx]), if_neg (by simp [hj]), canonL_map]
  rfl
theorem within {S : Sg} {ar : Int → Nat} (hS : S.Ok ar) {t a b : Tn} {n : Nat} (ht : RightT S ar t) (hb : RightT S ar b) (ha : (kidsL t.2)[n]? = some a) : canonT S (t.1, setF n t.2 b) = canonT S t ↔ canonT S b = canonT S a := by
  have hra : RightT S ar a := right_kids.1 ht.2 a (List.mem_of_getElem? ha)
  obtain ⟨l1, l2, e1, e2⟩ := set_split ha
  have ek : kidsL (setF n t.2 b) = l1 ++ b :: l2 := by rw [kids_setF, e2]
  have hn := ht.1
  unfold nodeOk at hn
  cases hx : noName t.1.1 with
  | false =>
    rw [if_pos hx] at hn
    have := congrArg List.length e1
    rw [kids_len, hn.2] at this
    simp at this
  | true =>
    cases hj : S.joins t.1.2 with
    | true =>
      rw [eq_iff hS hj (right_set ht hb) ht, eq_iff hS hj hb hra]
      have p1 := canonT_parts hS (t := (t.1, setF n t.2 b)) hj hx (right_set ht hb)
      have p2 := canonT_parts hS (t := t) hj hx ht
      dsimp only at p1
      rw [ek, List.flatMap_append, List.flatMap_cons] at p1
      rw [e1, List.flatMap_append, List.flatMap_cons] at p2
      constructor
      · intro h
        have := p1.symm.trans (h.trans p2)
        exact (List.perm_append_right_iff _).1 ((List.perm_append_left_iff _).1 this)
      · intro h
        exact p1.trans (((h.append_right _).append_left _).trans p2.symm)
    | false =>
      rw [canon_free (t := (t.1, setF n t.2 b)) hx hj, canon_free hx hj]
      dsimp only
      rw [ek, e1]
      constructor
      · intro h
        have h2 := mkF_inj (congrArg Prod.snd h)
        simp only [List.map_append, List.map_cons] at h2
        exact (List.cons.inj (List.append_cancel_left h2)).1
      · intro h
        simp only [List.map_append, List.map_cons]
        rw [h]

/-! ### another term at any place -/
theorem sub_right {S : Sg} {ar : Int → Nat} : ∀ (ps : List Int) {t x : Tn}, RightT S ar t → subT ps t = some x → RightT S ar x
  | [], t, x, ht, h => by simp only [subT, Option.some.injEq] at h; rw [← h]; exact ht
  | i :: p, t, x, ht, h => by
    simp only [subT] at h
    cases hk : kidT i t.2 with
    | none => rw [hk] at h; cases h
    | some k =>
      rw [hk] at h
      exact sub_right p (right_kids.1 ht.2 k (List.mem_of_getElem? (kidT_get hk).2)) h
theorem put_right {S : Sg} {ar : Int → Nat} {u : Tn} (hu : RightT S ar u) : ∀ (ps : List Int) {t y : Tn}, RightT S ar t → putT u ps t = some y → RightT S ar y
  | [], t, y, _, h => by simp only [putT, Option.some.injEq] at h; rw [← h]; exact hu
  | i :: p, t, y, ht, h => by
    simp only [putT] at h
    cases hk : kidT i t.2 with
    | none => rw [hk] at h; cases h
    | some k =>
      rw [hk] at h
      dsimp only at h
      cases hp : putT u p k with
      | none => rw [hp] at h; cases h
      | some k' =>
        rw [hp] at h
        simp only [Option.some.injEq] at h
        subst h
        exact right_set ht (put_right hu p (right_kids.1 ht.2 k (List.mem_of_getElem? (kidT_get hk).2)) hp)
theorem deep {S : Sg} {ar : Int → Nat} (hS : S.Ok ar) {u : Tn} (hu : RightT S ar u) : ∀ (ps : List Int) {t x y : Tn}, RightT S ar t → subT ps t = some x → putT u ps t = some y → (canonT S y = canonT S t ↔ canonT S u = canonT S x)
  | [], t, x, y, _, h, h2 => by
    simp only [subT, Option.some.injEq] at h
    simp only [putT, Option.some.injEq] at h2
    rw [← h, ← h2]
  | i :: p, t, x, y, ht, h, h2 => by
    simp only [subT] at h
    simp only [putT] at h2
    cases hk : kidT i t.2 with
    | none => rw [hk] at h; cases h
    | some k =>
      rw [hk] at h h2
      dsimp only at h2
      have hkr := right_kids.1 ht.2 k (List.mem_of_getElem? (kidT_get hk).2)
      cases hp : putT u p k with
      | none => rw [hp] at h2; cases h2
      | some k' =>
        rw [hp] at h2
        simp only [Option.some.injEq] at h2
        subst h2
        rw [within hS ht (put_right hu p hkr hp) (kidT_get hk).2]
        exact deep hS hu p hkr h hp
end Go.Proofs.Ytgidgmgpgfonnab
/- The program's own way to canonical forms, without any program: forms that are loose at the top, laid one behind the other, then put in order. -/
namespace Go.Proofs.Ytgidgmgpgfonnab
open Go.RowKit Go.Deep

/-! ### two lists, one beside the other -/
def All2 {α β : Type} (R : α → β → Prop) : List α → List β → Prop
  | [], [] => True
  | a :: xs, b :: ys => R a b ∧ All2 R xs ys
  | _, _ => False
theorem All2.snoc {α β : Type} {R : α → β → Prop} {a : α} {b : β} (h : R a b) : ∀ {xs : List α} {ys : List β}, All2 R xs ys → All2 R (xs ++ [a]) (ys ++ [b])
  | [], [], _ => ⟨h, trivial⟩
  | [], _ :: _, k => k.elim
  | _ :: _, [], k => k.elim
  | _ :: _, _ :: _, k => ⟨k.1, All2.snoc h k.2⟩
theorem All2.len {α β : Type} {R : α → β → Prop} : ∀ {xs : List α} {ys : List β}, All2 R xs ys → xs.length = ys.length
  | [], [], _ => rfl
  | [], _ :: _, k => k.elim
  | _ :: _, [], k => k.elim
  | _ :: _, _ :: _, k => by simp [All2.len k.2]
theorem All2.mono {α β : Type} {R R' : α → β → Prop} : ∀ {xs : List α} {ys : List β}, (∀ a ∈ xs, ∀ b, R a b → R' a b) → All2 R xs ys → All2 R' xs ys
  | [], [], _, _ => trivial
  | [], _ :: _, _, k => k.elim
  | _ :: _, [], _, k => k.elim
  | a :: _, b :: _, h, k => ⟨h a (by simp) b k.1, All2.mono (fun x hx => h x (by simp [hx])) k.2⟩

/-! ### loose forms -/
def jn (S : Sg) (t : Tn) : Bool := noName t.1.1 && S.joins t.1.2
/-- The same but for the order at the top. -/
def Mod (S : Sg) (c r : Tn) : Prop := r.1 = c.1 ∧ if jn S c then List.Perm (kidsL r.2) (kidsL c.2) else r = c
/-- Put in order at the top. -/
def SetR (S : Sg) (r r' : Tn) : Prop := r'.1 = r.1 ∧ if jn S r then ∃ l, r'.2 = mkF l ∧ List.Perm l (kidsL r.2) ∧ Srt l else r' = r
theorem mod_set {S : Sg} {ar : Int → Nat} {c r r' : Tn} (hc : CanT S ar c) (h : Mod S c r) (k : SetR S r r') : r' = c := by
  obtain ⟨h1, h2⟩ := h
  obtain ⟨k1, k2⟩ := k
  have e : jn S r = jn S c := by unfold jn; rw [h1]
  rw [e] at k2
  cases hj : jn S c with
  | false =>
    rw [hj] at h2 k2
    simp only [Bool.false_eq_true, if_false] at h2 k2
    rw [k2, h2]
  | true =>
    rw [hj] at h2 k2
    simp only [if_true] at h2 k2
    obtain ⟨l, e1, e2, e3⟩ := k2
    unfold jn at hj
    rw [Bool.and_eq_true] at hj
    have hcan := hc.1
    unfold can1 at hcan
    rw [if_neg (by rw [hj.1]; simp), if_pos hj.2] at hcan
    have e4 : kidsL c.2 = l := srt_eq (can_kids hc.2) hcan.2.2.1 e3 (h2.symm.trans e2.symm)
    have e5 := can_mk_kids hc.2
    rw [e4] at e5
    exact Prod.ext (k1.trans h1) (e1.trans e5)
theorem set_size {S : Sg} {r r' : Tn} (k : SetR S r r') : sizeT r' = sizeT r := by
  obtain ⟨_, k2⟩ := k
  cases hj : jn S r with
  | false => rw [hj] at k2; simp only [Bool.false_eq_true, if_false] at k2; rw [k2]
  | true =>
    rw [hj] at k2
    simp only [if_true] at k2
    obtain ⟨l, e1, e2, _⟩ := k2
    unfold sizeT
    rw [e1, nodes_mk, nodes_sizes r.2, sizes_perm e2]
theorem mod_un {S : Sg} {ar : Int → Nat} (hS : S.Ok ar) {f : Int} {c r : Tn} (h : Mod S c r) : isUn S f c = isUn S f r := by
  obtain ⟨h1, h2⟩ := h
  have key : ∀ u, S.unit f = some u → c.1 = (noB, u) → r = c := fun u hu e => by
    have : jn S c = false := by unfold jn; rw [e]; simp [hS.free f u hu]
    rw [this] at h2
    simpa using h2
  cases hc : isUn S f c with
  | true =>
    obtain ⟨u, hu, rfl⟩ := isUn_some hc
    rw [key u hu rfl]
    exact hc.symm
  | false =>
    cases hr : isUn S f r with
    | false => rfl
    | true =>
      obtain ⟨u, hu, rfl⟩ := isUn_some hr
      rw [← key u hu h1.symm] at hc
      rw [hc] at hr
      exact hr
/-- What a term gives to its symbol's list, in some order. -/
def PartR (S : Sg) (f : Int) (r : Tn) (p : List Tn) : Prop := if headed f r then List.Perm p (kidsL r.2) else ∃ r', SetR S r r' ∧ p = [r']
def FlatR (S : Sg) (f : Int) : List Tn → List Tn → Prop
  | [], out => out = []
  | r :: rs, out => ∃ p q, PartR S f r p ∧ FlatR S f rs q ∧ List.Perm out (p ++ q)
theorem FlatR.snoc {S : Sg} {f : Int} {r : Tn} {p : List Tn} (hp : PartR S f r p) : ∀ {rs out out' : List Tn}, FlatR S f rs out → List.Perm out' (out ++ p) → FlatR S f (rs ++ [r]) out'
  | [], out, out', h, k => by
    have h : out = [] := h
    subst h
    exact ⟨p, [], hp, rfl, by simpa using k⟩
  | x :: rs, out, out', ⟨p', q', h1, h2, h3⟩, k => ⟨p', q' ++ p, h1, FlatR.snoc hp h2 (List.Perm.refl _), k.trans (by rw [← List.append_assoc]; exact h3.append_right p)⟩
theorem part_size {S : Sg} {f : Int} {r : Tn} {p : List Tn} (h : PartR S f r p) : sizes p ≤ sizeT r := by
  unfold PartR at h
  split at h
  · rw [sizes_perm h, ← nodes_sizes]; unfold sizeT; omega
  · obtain ⟨r', hr, rfl⟩ := h
    rw [sizes_cons, sizes_nil, set_size hr]; omega
theorem flat_sizes {S : Sg} {f : Int} : ∀ {rs out : List Tn}, FlatR S f rs out → sizes out ≤ sizes rs
  | [], out, h => by
    have h : out = [] := h
    subst h
    exact Nat.le_refl _
  | r :: rs, out, ⟨p, q, h1, h2, h3⟩ => by
    rw [sizes_perm h3, sizes_append, sizes_cons]
    have := part_size h1
    have := flat_sizes h2
    omega
theorem part_mod {S : Sg} {ar : Int → Nat} (hS : S.Ok ar) {f : Int} (hj : S.joins f = true) {c r : Tn} (hc : CanT S ar c) (h : Mod S c r) (hu : isUn S f r = false) {p : List Tn} (hp : PartR S f r p) : List.Perm p (partsN S f c) := by
  unfold partsN
  rw [if_neg (by simp [hj]), mod_un hS h, hu]
  have e : headed f r = headed f c := by unfold headed; rw [h.1]
  unfold PartR at hp
  rw [e] at hp
  cases hh : headed f c with
  | true =>
    rw [hh] at hp
    simp only [if_true] at hp
    have hjn : jn S c = true := by
      obtain ⟨e1, e2⟩ := headed_iff.1 hh
      unfold jn; rw [e1, e2, hj]; rfl
    have h2 := h.2
    rw [hjn] at h2
    simp only [if_true] at h2
    simpa using hp.trans h2
  | false =>
    rw [hh] at hp
    simp only [Bool.false_eq_true, if_false] at hp
    obtain ⟨r', hr, rfl⟩ := hp
    rw [mod_set hc h hr]
    simp
theorem flat_mod {S : Sg} {ar : Int → Nat} (hS : S.Ok ar) {f : Int} (hj : S.joins f = true) : ∀ {ts rs out : List Tn}, (∀ t ∈ ts, RightT S ar t) → All2 (fun t r => Mod S (canonT S t) r) ts rs → (∀ r ∈ rs, isUn S f r = false) → FlatR S f rs out → List.Perm out (ts.flatMap (pc S f))
  | [], [], out, _, _, _, h => by
    have h : out = [] := h
    subst h
    simp
  | [], _ :: _, _, _, h, _, _ => h.elim
  | _ :: _, [], _, _, h, _, _ => h.elim
  | t :: ts, r :: rs, out, ht, h, hu, ⟨p, q, h1, h2, h3⟩ => by
    rw [List.flatMap_cons]
    exact h3.trans ((part_mod hS hj (canonT_can hS (ht t (by simp))) h.1 (hu r (by simp)) h1).append (flat_mod hS hj (fun x hx => ht x (by simp [hx])) h.2 (fun x hx => hu x (by simp [hx])) h2))
def FlatOut (S : Sg) (f : Int) (rs : List Tn) (r : Tn) : Prop := rs = [r] ∨ (rs.length ≠ 1 ∧ ∃ out, FlatR S f rs out ∧ r = ((noB, f), mkF out))
theorem flatout_size {S : Sg} {f : Int} {rs : List Tn} {r : Tn} (h : FlatOut S f rs r) : sizeT r ≤ sizes rs + 1 := by
  rcases h with rfl | ⟨_, out, h1, rfl⟩
  · rw [sizes_cons, sizes_nil]; omega
  · unfold sizeT
    rw [nodes_mk]
    have := flat_sizes h1
    omega
theorem pc_pos {S : Sg} {ar : Int → Nat} (hS : S.Ok ar) {f : Int} (hj : S.joins f = true) {t r : Tn} (ht : RightT S ar t) (h : Mod S (canonT S t) r) (hu : isUn S f r = false) : 1 ≤ (pc S f t).length := by
  unfold pc partsN
  rw [if_neg (by simp [hj]), mod_un hS h, hu]
  cases hh : headed f (canonT S t) with
  | true => have := (can_head hj (canonT_can hS ht) hh).2.1; simp; omega
  | false => simp
theorem flat_long {S : Sg} {ar : Int → Nat} (hS : S.Ok ar) {f : Int} (hj : S.joins f = true) : ∀ {ts rs : List Tn}, (∀ t ∈ ts, RightT S ar t) → All2 (fun t r => Mod S (canonT S t) r) ts rs → (∀ r ∈ rs, isUn S f r = false) → rs.length ≤ (ts.flatMap (pc S f)).length
  | [], [], _, _, _ => by simp
  | [], _ :: _, _, h, _ => h.elim
  | _ :: _, [], _, h, _ => h.elim
  | t :: ts, r :: rs, ht, h, hu => by
    rw [List.flatMap_cons, List.length_append, List.length_cons]
    have := pc_pos hS hj (ht t (by simp)) h.1 (hu r (by simp))
    have := flat_long hS hj (fun x hx => ht x (by simp [hx])) h.2 (fun x hx => hu x (by simp [hx]))
    omega
theorem flatout_mod {S : Sg} {ar : Int → Nat} (hS : S.Ok ar) {f : Int} (hj : S.joins f = true) {ts rs : List Tn} {r : Tn} (ht : ∀ t ∈ ts, RightT S ar t) (h : All2 (fun t r => Mod S (canonT S t) r) ts rs) (hu : ∀ r ∈ rs, isUn S f r = false) (hn : rs ≠ []) (ho : FlatOut S f rs r) :
    ∃ c, joinL S f (ts.flatMap (pc S f)) = some c ∧ Mod S c r := by
  rcases ho with rfl | ⟨hl, out, h1, rfl⟩
  · match ts, h with
    | [t], h =>
      refine ⟨canonT S t, ?_, h.1⟩
      rw [List.flatMap_cons, List.flatMap_nil, List.append_nil]
      exact join_parts hj (canonT_can hS (ht t (by simp)))
    | [], h => exact h.elim
    | _ :: _ :: _, h => exact h.2.elim
  · have h2 : 2 ≤ (ts.flatMap (pc S f)).length := by
      have := flat_long hS hj ht h hu
      have : rs.length ≠ 0 := fun e => hn (List.length_eq_zero_iff.1 e)
      omega
    refine ⟨_, join_many S f h2, rfl, ?_⟩
    have : jn S ((noB, f), mkF (sortN (ts.flatMap (pc S f)))) = true := by unfold jn; simp [noName_noB, hj]
    rw [this]
    simp only [if_true]
    rw [kids_mk, kids_mk]
    exact (flat_mod hS hj ht h hu h1).trans (sortN_perm _).symm
theorem drop_units {S : Sg} {ar : Int → Nat} (hS : S.Ok ar) {f : Int} (hj : S.joins f = true) : ∀ {ts rs : List Tn}, (∀ t ∈ ts, RightT S ar t) → All2 (fun t r => Mod S (canonT S t) r) ts rs →
    ∃ ts', All2 (fun t r => Mod S (canonT S t) r) ts' (rs.filter fun r => !isUn S f r) ∧ (∀ t ∈ ts', RightT S ar t) ∧ ts.flatMap (pc S f) = ts'.flatMap (pc S f)
  | [], [], _, _ => ⟨[], trivial, by simp, rfl⟩
  | [], _ :: _, _, h => h.elim
  | _ :: _, [], _, h => h.elim
  | t :: ts, r :: rs, ht, h => by
    obtain ⟨ts', k1, k2, k3⟩ := drop_units hS hj (fun x hx => ht x (by simp [hx])) h.2
    cases hu : isUn S f r with
    | true =>
      refine ⟨ts', by simpa [List.filter_cons, hu] using k1, k2, ?_⟩
      rw [List.flatMap_cons, k3]
      have : pc S f t = [] := by
        unfold pc partsN
        rw [if_neg (by simp [hj]), mod_un hS h.1, hu]
        simp
      rw [this]
      rfl
    | false =>
      refine ⟨t :: ts', by simpa [List.filter_cons, hu] using ⟨h.1, k1⟩, fun x hx => ?_, by rw [List.flatMap_cons, List.flatMap_cons, k3]⟩
      rcases List.mem_cons.1 hx with rfl | hx
      · exact ht _ (by simp)
      · exact k2 x hx

/-! ### a symbol's term of loose forms -/
def LayR (S : Sg) (k f u : Int) (rs : List Tn) (r : Tn) : Prop :=
  if k = 1 then ∃ rs', All2 (SetR S) rs rs' ∧ r = ((noB, f), mkF rs')
  else if k = 2 then FlatOut S f rs r
  else ((rs.filter fun r => !isUn S f r) = [] ∧ r = constT u) ∨ ((rs.filter fun r => !isUn S f r) ≠ [] ∧ FlatOut S f (rs.filter fun r => !isUn S f r) r)
/-- A form of t, loose at the top; no greater than t, whatever t is. -/
def LooseR (S : Sg) (ar : Int → Nat) (t r : Tn) : Prop := sizeT r ≤ sizeT t ∧ (S.Ok ar → RightT S ar t → Mod S (canonT S t) r)
theorem loose_sizes {S : Sg} {ar : Int → Nat} : ∀ {ts rs : List Tn}, All2 (LooseR S ar) ts rs → sizes rs ≤ sizes ts
  | [], [], _ => Nat.le_refl _
  | [], _ :: _, h => h.elim
  | _ :: _, [], h => h.elim
  | t :: ts, r :: rs, h => by
    rw [sizes_cons, sizes_cons]
    have := h.1.1
    have := loose_sizes h.2
    omega
theorem loose_mods {S : Sg} {ar : Int → Nat} (hS : S.Ok ar) : ∀ {ts rs : List Tn}, (∀ t ∈ ts, RightT S ar t) → All2 (LooseR S ar) ts rs → All2 (fun t r => Mod S (canonT S t) r) ts rs
  | [], [], _, _ => trivial
  | [], _ :: _, _, h => h.elim
  | _ :: _, [], _, h => h.elim
  | t :: ts, r :: rs, ht, h => ⟨h.1.2 hS (ht t (by simp)), loose_mods hS (fun x hx => ht x (by simp [hx])) h.2⟩
theorem set_sizes {S : Sg} : ∀ {rs rs' : List Tn}, All2 (SetR S) rs rs' → sizes rs' = sizes rs
  | [], [], _ => rfl
  | [], _ :: _, h => h.elim
  | _ :: _, [], h => h.elim
  | r :: rs, r' :: rs', h => by rw [sizes_cons, sizes_cons, set_size h.1, set_sizes h.2]
theorem sizes_filter (p : Tn → Bool) : ∀ rs : List Tn, sizes (rs.filter p) ≤ sizes rs
  | [] => Nat.le_refl _
  | r :: rs => by
    have := sizes_filter p rs
    rw [List.filter_cons]
    split
    · rw [sizes_cons, sizes_cons]; omega
    · rw [sizes_cons]; omega
theorem lay_size {S : Sg} {k f u : Int} {rs : List Tn} {r : Tn} (h : LayR S k f u rs r) : sizeT r ≤ sizes rs + 1 := by
  unfold LayR at h
  split at h
  · obtain ⟨rs', h1, rfl⟩ := h
    unfold sizeT
    rw [nodes_mk, set_sizes h1]
    omega
  · split at h
    · exact flatout_size h
    · rcases h with ⟨_, rfl⟩ | ⟨_, h⟩
      · simp [sizeT, constT, nodesF]
      · have := flatout_size h
        have := sizes_filter (fun r => !isUn S f r) rs
        omega
theorem mods_set {S : Sg} {ar : Int → Nat} (hS : S.Ok ar) : ∀ {ts rs rs' : List Tn}, (∀ t ∈ ts, RightT S ar t) → All2 (fun t r => Mod S (canonT S t) r) ts rs → All2 (SetR S) rs rs' → rs' = ts.map (canonT S)
  | [], [], [], _, _, _ => rfl
  | [], _ :: _, _, _, h, _ => h.elim
  | _ :: _, [], _, _, h, _ => h.elim
  | [], [], _ :: _, _, _, h => h.elim
  | _ :: _, _ :: _, [], _, _, h => h.elim
  | t :: ts, r :: rs, r' :: rs', ht, h, k => by rw [List.map_cons, mod_set (canonT_can hS (ht t (by simp))) h.1 k.1, mods_set hS (fun x hx => ht x (by simp [hx])) h.2 k.2]
/-- What the kinds say of a symbol. -/
structure KindOk (S : Sg) (k f u : Int) : Prop where
  free : k = 1 ↔ S.joins f = false
  ac : k = 2 → S.unit f = none
  unit : ∀ v, S.unit f = some v → v = u
theorem lay_join {S : Sg} {ar : Int → Nat} (hS : S.Ok ar) {k f u : Int} (hk : KindOk S k f u) (hj : S.joins f = true) {ts rs : List Tn} {r : Tn} (ht : ∀ t ∈ ts, RightT S ar t) (h : All2 (LooseR S ar) ts rs) (hl : LayR S k f u rs r) (hn : ts ≠ [] ∨ S.unit f ≠ none) :
    ∃ c, joinL S f (ts.flatMap (pc S f)) = some c ∧ Mod S c r := by
  have hm := loose_mods hS ht h
  have k1 : k ≠ 1 := fun e => by have := hk.free.1 e; rw [hj] at this; cases this
  unfold LayR at hl
  rw [if_neg k1] at hl
  split at hl
  · rename_i k2
    have hnone := hk.ac k2
    have hun : ∀ r ∈ rs, isUn S f r = false := fun r _ => by unfold isUn; rw [hnone]
    have hrs : rs ≠ [] := fun e => by
      have := h.len
      rw [e] at this
      rcases hn with hn | hn
      · exact hn (List.length_eq_zero_iff.1 this)
      · exact hn hnone
    exact flatout_mod hS hj ht hm hun hrs hl
  · obtain ⟨ts', h1, h2, h3⟩ := drop_units hS hj ht hm
    rw [h3]
    have hun : ∀ r ∈ rs.filter (fun r => !isUn S f r), isUn S f r = false := fun r hr => by simpa using (List.mem_filter.1 hr).2
    rcases hl with ⟨e, rfl⟩ | ⟨e, hl⟩
    · rw [e] at h1
      have : ts' = [] := List.length_eq_zero_iff.1 h1.len
      subst this
      have hsome : ∃ v, S.unit f = some v := by
        cases hv : S.unit f with
        | some v => exact ⟨v, rfl⟩
        | none =>
          exfalso
          rcases hn with hn | hn
          · have hl2 := h.len
            match ts, rs, hn, hl2 with
            | t :: ts, r :: rs, _, _ =>
              have : r ∈ (r :: rs).filter (fun r => !isUn S f r) := List.mem_filter.2 ⟨by simp, by unfold isUn; rw [hv]; rfl⟩
              rw [e] at this
              cases this
          · exact hn hv
      obtain ⟨v, hv⟩ := hsome
      have hvu := hk.unit v hv
      subst hvu
      refine ⟨constT v, by simp [joinL, hv], rfl, ?_⟩
      have : jn S (constT v) = false := by unfold jn constT; simp [hS.free f v hv]
      rw [this]
      simp
    · exact flatout_mod hS hj h2 h1 hun e hl
theorem lay_loose {S : Sg} {ar : Int → Nat} {k u : Int} {x : ByteArray × Int} {F : Fo} (hk : KindOk S k x.2 u) (hx : noName x.1 = true) (hF : lenF F ≠ 0) {rs : List Tn} {r : Tn} (h : All2 (LooseR S ar) (kidsL F) rs) (hl : LayR S k x.2 u rs r) : LooseR S ar (x, F) r := by
  refine ⟨?_, fun hS hR => ?_⟩
  · have h1 := lay_size hl
    have h2 := loose_sizes h
    rw [← nodes_sizes] at h2
    unfold sizeT at *
    show nodesF r.2 + 1 ≤ nodesF F + 1
    omega
  · have ht : ∀ t ∈ kidsL F, RightT S ar t := right_kids.1 hR.2
    have hc : canonT S (x, F) = canon1 S x ((kidsL F).map (canonT S)) := by unfold canonT; rw [canonL_map]; rfl
    cases hj : S.joins x.2 with
    | false =>
      have k1 := hk.free.2 hj
      unfold LayR at hl
      rw [if_pos k1] at hl
      obtain ⟨rs', h1, rfl⟩ := hl
      have e := mods_set hS ht (loose_mods hS ht h) h1
      have hce : canonT S (x, F) = ((noB, x.2), mkF rs') := by
        rw [hc, e]
        unfold canon1
        rw [if_neg (by rw [hx]; simp), hj]
        simp
      rw [hce]
      refine ⟨rfl, ?_⟩
      have : jn S ((noB, x.2), mkF rs') = false := by unfold jn; simp [hj]
      rw [this]
      simp
    | true =>
      have hne : kidsL F ≠ [] := fun e => hF (by rw [← kids_len, e]; rfl)
      obtain ⟨c, h1, h2⟩ := lay_join hS hk hj ht h hl (.inl hne)
      have h3 := canon1_join (S := S) (ar := ar) (x := x) (cs := (kidsL F).map (canonT S)) hx hj (fun c hc => by
        obtain ⟨t, h4, rfl⟩ := List.mem_map.1 hc
        exact canonT_can hS (ht t h4)) (by simpa using hne)
      rw [List.flatMap_map] at h3
      have h4 : some c = some (canon1 S x ((kidsL F).map (canonT S))) := h1.symm.trans h3
      rw [hc, ← Option.some.inj h4]
      exact h2

/-! ### the kinds of a signature -/
def kindK (l : List Sym) (f : Int) : Int := match symAt l f with | some x => if 1 ≤ x.kind ∧ x.kind ≤ 3 then x.kind else 1 | none => 1
theorem kindK_range (l : List Sym) (f : Int) : 1 ≤ kindK l f ∧ kindK l f ≤ 3 := by
  unfold kindK
  split
  · split <;> omega
  · omega
theorem kindK_ok (l : List Sym) (f : Int) : KindOk (sgOf l) (kindK l f) f (unitI l f) := by
  refine ⟨?_, ?_, ?_⟩
  · show _ ↔ joinsAt l f = false
    unfold kindK joinsAt
    cases symAt l f with
    | none => simp
    | some x =>
      dsimp only
      rw [Bool.or_eq_false_iff, decide_eq_false_iff_not, decide_eq_false_iff_not]
      split <;> omega
  · intro h
    show (unitAt l f).map _ = none
    rw [Option.map_eq_none_iff]
    by_cases hin : 0 ≤ f ∧ f.toNat < l.length
    · obtain ⟨n, rfl⟩ := Int.eq_ofNat_of_zero_le hin.1
      have hn : n < l.length := by simpa using hin.2
      refine unit_not hn ?_
      unfold kindK at h
      rw [symAt_in hn] at h
      dsimp only at h
      intro e
      rw [e] at h
      simp at h
    · exact unit_out hin
  · intro v hv
    have hv : (unitAt l f).map (fun (i : Nat) => (i : Int)) = some v := hv
    unfold unitI
    cases hu : unitAt l f with
    | none => rw [hu] at hv; cases hv
    | some i => rw [hu] at hv; simpa using hv.symm
end Go.Proofs.Ytgidgmgpgfonnab
/- What kindAt, headAt, gathers and isUnit of package canon answer. -/
namespace Go.Proofs.Ytgidgmgpgfonnab
open Go.RowKit Go.Deep

set_option maxRecDepth 100000 in
set_option maxHeartbeats 400000 in
theorem kindAt_any (a : Option Addr) (n cap : Nat) (l : List Sym) (z : Int) (w : World) (h : SigAt w a n l) :
    Calls Try.prog 50 #[.slice a n cap, .int .i64 z] w fun e w' => e = .returned (.int .i64 (kindK l z)) ∧ w' = w := by
  have HS : Hid (SigAt w a n l) := h
  have hm := h.small
  unfold maxLen at hm
  clear h
  by_cases h0 : z < 0
  · have hu : Hid (kindK l z = 1) := by show _ = _; unfold kindK; rw [symAt_out (by omega)]
    go_enter Try.func50, Try.ntmps50
    go_wp2
    go_ret
    exact ⟨by rw [hu.out]; rfl, rfl⟩
  · obtain ⟨k, rfl⟩ := Int.eq_ofNat_of_zero_le (by omega : 0 ≤ z)
    by_cases h1 : (n : Int) ≤ k
    · have hu : Hid (kindK l k = 1) := by show _ = _; unfold kindK; rw [symAt_out (by have := HS.out.len; omega)]
      go_enter Try.func50, Try.ntmps50
      go_wp2
      go_ret
      exact ⟨by rw [hu.out]; rfl, rfl⟩
    · have hlk : k < l.length := by have := HS.out.len; omega
      obtain ⟨b, off, rfl, hw⟩ := HS.out.cells k hlk
      have c1 := hw.kind
      clear hw
      have hk : Hid (kindK l k = if 1 ≤ l[k].kind ∧ l[k].kind ≤ 3 then l[k].kind else 1) := by show _ = _; unfold kindK; rw [symAt_in hlk]
      by_cases h2 : l[k].kind < 1
      · go_enter Try.func50, Try.ntmps50
        go_wp2
        go_ret
        exact ⟨by rw [hk.out, if_neg (by omega)]; rfl, rfl⟩
      · by_cases h3 : 3 < l[k].kind
        · go_enter Try.func50, Try.ntmps50
          go_wp2
          go_ret
          exact ⟨by rw [hk.out, if_neg (by omega)]; rfl, rfl⟩
        · go_enter Try.func50, Try.ntmps50
          go_wp2
          go_ret
          exact ⟨by rw [hk.out, if_pos (by omega)]; rfl, rfl⟩

/-- A symbol with all that its arguments' laying hangs on. -/
def headV (a : Option Addr) (n cap : Nat) (l : List Sym) (f : Int) : Array Value := #[.slice a n cap, .int .i64 f, .int .i64 (kindK l f), .int .i64 (unitI l f), .bool (unitOk l f)]
/-- A struct's cells in a block of their own. -/
def Box (W : World) (B : Nat) (T : TypeId) (cs : Array Value) : Prop := W.heap[B]? = some (.cells cs T (0, 0))
theorem Box.new (W : World) (T : TypeId) (cs : Array Value) : Box (W.alloc (.cells cs T)) W.heap.size T cs := World.alloc_heap_new W _
theorem Box.c {W : World} {B : Nat} {T : TypeId} {cs : Array Value} (h : Box W B T cs) (k : Nat) : W.cell? ⟨B, k, none⟩ = cs[k]? := by simp [World.cell?, show W.heap[B]? = _ from h]
theorem Box.f {W : World} {B : Nat} {T : TypeId} {cs : Array Value} (h : Box W B T cs) (k : Nat) : W.frozen? ⟨B, k, none⟩ = false := by simp [World.frozen?, show W.heap[B]? = _ from h]
theorem Box.lt {W : World} {B : Nat} {T : TypeId} {cs : Array Value} (h : Box W B T cs) : B < W.heap.size := (Array.getElem?_eq_some_iff.1 h).1
theorem Box.below {W W' : World} {B : Nat} {T : TypeId} {cs : Array Value} (h : Box W B T cs) (hb : Below W.heap.size W W') : Box W' B T cs := (hb.block B h.lt).trans h
theorem Box.set {W : World} {B : Nat} {T : TypeId} {cs : Array Value} (h : Box W B T cs) (k : Nat) (u : Value) : Box (W.setCell ⟨B, k, none⟩ u) B T (cs.setIfInBounds k u) := block_set h u
theorem Box.all5 {W : World} {B : Nat} {T : TypeId} {a b c d e : Value} (h : Box W B T #[a, b, c, d, e]) (u0 u1 u2 u3 u4 : Value) : Box (((((W.setCell ⟨B, 0, none⟩ u0).setCell ⟨B, 1, none⟩ u1).setCell ⟨B, 2, none⟩ u2).setCell ⟨B, 3, none⟩ u3).setCell ⟨B, 4, none⟩ u4) B T #[u0, u1, u2, u3, u4] := ((((h.set 0 u0).set 1 u1).set 2 u2).set 3 u3).set 4 u4
theorem Try.size80 : (Try.prog.info? 80).map (·.size) = some 5 := by kernel_rfl
set_option maxRecDepth 100000 in
set_option maxHeartbeats 400000 in
theorem headAt_any (a : Option Addr) (n cap : Nat) (l : List Sym) (z : Int) (w : World) (h : SigAt w a n l) :
    Calls Try.prog 53 #[.slice a n cap, .int .i64 z] w fun e w' => e = .returned (.agg (headV a n cap l z)) ∧ Below w.heap.size w w' := by
  have HS : Hid (SigAt w a n l) := h
  clear h
  have HU : Hid (∀ W, Below w.heap.size w W → Calls Try.prog 62 #[.slice a n cap, .int .i64 z] W fun e w' => UnitRet l z e ∧ Below W.heap.size W w') := fun W hW => sunit_any a n cap l z W (HS.out.below hW)
  have HK : Hid (∀ W, Below w.heap.size w W → Calls Try.prog 50 #[.slice a n cap, .int .i64 z] W fun e w' => e = .returned (.int .i64 (kindK l z)) ∧ w' = W) := fun W hW => kindAt_any a n cap l z W (HS.out.below hW)
  go_enter Try.func53, Try.ntmps53
  go_wp2_with (first
    | (go_at_call 62; refine (HU.out _ ((Below.refl _ w).alloc (Nat.le_refl _) _)).mono ?_; rintro e w1 ⟨he, hb1⟩; have HB1 : Hid (Below w.heap.size w w1) := ((Below.refl _ w).alloc (Nat.le_refl _) _).trans (hb1.mono (by simp)); have HX : Box w1 w.heap.size 80 #[.slice none 0 0, .int .i64 0, .int .i64 0, .int .i64 0, .bool false] := (Box.new w 80 _).below hb1; have k0 := HX.c 0; have k1 := HX.c 1; have k2 := HX.c 2; have k3 := HX.c 3; have k4 := HX.c 4; have f0 := HX.f 0; have f1 := HX.f 1; have f2 := HX.f 2; have f3 := HX.f 3; have f4 := HX.f 4; have HXX : Hid (Box w1 w.heap.size 80 #[.slice none 0 0, .int .i64 0, .int .i64 0, .int .i64 0, .bool false]) := HX; unfold UnitRet at he; subst he; clear hb1 HX)
    | (go_at_call 50; refine (HK.out _ HB1.out).mono ?_; rintro e w2 ⟨rfl, rfl⟩))
  refine bodyPost_ret (results_cell_row rfl _ _ w.heap.size 80 (headV a n cap l z) (0, 0) _ rfl (HXX.out.all5 _ _ _ _ _) Try.underlying80 rfl Try.size80) rfl ?_
  refine ⟨rfl, ?_⟩
  exact ((((HB1.out.setCell (p := ⟨w.heap.size, 0, none⟩) (Nat.le_refl _) _).setCell (p := ⟨w.heap.size, 1, none⟩) (Nat.le_refl _) _).setCell (p := ⟨w.heap.size, 2, none⟩) (Nat.le_refl _) _).setCell (p := ⟨w.heap.size, 3, none⟩) (Nat.le_refl _) _).setCell (p := ⟨w.heap.size, 4, none⟩) (Nat.le_refl _) _
set_option maxRecDepth 100000 in
set_option maxHeartbeats 400000 in
theorem gathers_any (hv : Option Addr) (n cap : Nat) (f k u : Int) (hu : Bool) (t : Tn) (a : Option Addr) (c : Nat) (w : World) :
    Calls Try.prog 92 #[.agg #[.slice hv n cap, .int .i64 f, .int .i64 k, .int .i64 u, .bool hu], .agg #[.string t.1.1, .int .i64 t.1.2, .slice a (lenF t.2) c]] w fun e w' => e = .returned (.bool (!decide (k = 1) && headed f t)) ∧ Below w.heap.size w w' := by
  obtain ⟨⟨nm, s⟩, F⟩ := t
  have hr : Hid (headed f ((nm, s), F) = (nm.toList.isEmpty && s == f)) := rfl
  by_cases h1 : k = 1
  · go_enter Try.func92, Try.ntmps92
    go_wp2
    go_ret
    exact ⟨by simp [h1], ((Below.refl _ w).alloc (Nat.le_refl _) _).alloc (by simp) _⟩
  · cases h2 : nm.toList.isEmpty
    · go_enter Try.func92, Try.ntmps92
      go_wp2
      go_ret
      exact ⟨by rw [hr.out, h2]; simp, ((Below.refl _ w).alloc (Nat.le_refl _) _).alloc (by simp) _⟩
    · go_enter Try.func92, Try.ntmps92
      go_wp2
      go_ret
      exact ⟨by rw [hr.out, h2]; simp [h1], ((Below.refl _ w).alloc (Nat.le_refl _) _).alloc (by simp) _⟩
/-- A fixed term, which lies nowhere. -/
theorem tm_const (w : World) (u : Int) : TmAt w (noB, u) none 0 .nil := ⟨⟨by show noB.size ≤ maxLen; decide, Nat.le_refl _, Nat.zero_le _, by simp [lenF]⟩, .inl rfl⟩
set_option maxRecDepth 100000 in
set_option maxHeartbeats 400000 in
theorem same_any (x y : Tn) (a b : Option Addr) (c d : Nat) (w : World) (hS : TmAt w x.1 a c x.2) (hT : TmAt w y.1 b d y.2) :
    Calls Try.prog 98 #[.agg #[.string x.1.1, .int .i64 x.1.2, .slice a (lenF x.2) c], .agg #[.string y.1.1, .int .i64 y.1.2, .slice b (lenF y.2) d]] w fun e w' => e = .returned (.bool (cmpN x y == 0)) ∧ Below w.heap.size w w' := by
  obtain ⟨⟨xn, xs⟩, l⟩ := x
  obtain ⟨⟨yn, ys⟩, m⟩ := y
  obtain ⟨cv, hcv⟩ : ∃ cv, cmpN ((xn, xs), l) ((yn, ys), m) = cv := ⟨_, rfl⟩
  have HB0 : Hid (Below w.heap.size w ((w.alloc (.cells #[.string xn, .int .i64 xs, .slice a (lenF l) c] 27)).alloc (.cells #[.string yn, .int .i64 ys, .slice b (lenF m) d] 27))) := ((Below.refl _ w).alloc (Nat.le_refl _) _).alloc (by simp) _
  have HC : Hid (∀ V, Below w.heap.size w V → Calls Try.prog 52 #[.agg #[.string xn, .int .i64 xs, .slice a (lenF l) c], .agg #[.string yn, .int .i64 ys, .slice b (lenF m) d]] V fun e w' => e = .returned (.int .i64 cv) ∧ Below V.heap.size V w') := fun V hV => by
    have := compare_all _ (xn, xs) (yn, ys) a b c d l m V (Nat.le_refl _) (hS.below hV) (hT.below hV)
    rw [show cmp1 (xn, xs) (yn, ys) (lenF l) (lenF m) (cmpF l m) = cv from hcv] at this
    exact this.mono fun _ _ h => ⟨h.1, h.2.below⟩
  rw [hcv]
  clear hcv hS hT
  go_enter Try.func98, Try.ntmps98
  go_wp2_with (go_at_call 52; refine (HC.out _ HB0.out).mono ?_; rintro e w1 ⟨rfl, hb1⟩; have HB1 : Hid (Below w.heap.size w w1) := HB0.out.trans (hb1.mono HB0.out.size); clear hb1)
  go_ret
  exact ⟨rfl, HB1.out⟩
theorem cmp_const (t : Tn) (u : Int) : (cmpN t (constT u) == 0) = isConst t u := by
  obtain ⟨⟨nm, s⟩, F⟩ := t
  unfold cmpN isConst constT cmp1
  cases h1 : noName nm with
  | false => simp [noName_noB]
  | true =>
    simp only [noName_noB]
    by_cases h2 : s = u
    · subst h2
      by_cases h3 : lenF F = 0
      · rw [len_nil h3]; simp [lenF, cmpF]
      · have h4 : (Lib.compareInt (lenF F) 0 == 0) = false := by
          have : ¬ Lib.compareInt (lenF F) 0 = 0 := by unfold Lib.compareInt; split <;> omega
          simpa using this
        have h5 : (lenF F == 0) = false := by simpa using h3
        simp [lenF, h3, h4, h5]
    · have h4 : (Lib.compareInt s u == 0) = false := by
        have : ¬ Lib.compareInt s u = 0 := by unfold Lib.compareInt; split <;> omega
        simpa using this
      have h5 : (s == u) = false := by simpa using h2
      simp [h2, h4, h5]
def isUnB (l : List Sym) (f : Int) (t : Tn) : Bool := unitOk l f && isConst t (unitI l f)
theorem isUnB_eq (l : List Sym) (f : Int) (t : Tn) : isUnB l f t = isUn (sgOf l) f t := by
  unfold isUnB isUn unitOk unitI
  show _ = (match (unitAt l f).map (fun (i : Nat) => (i : Int)) with | some u => isConst t u | none => false)
  cases unitAt l f <;> simp
set_option maxRecDepth 100000 in
set_option maxHeartbeats 400000 in
theorem isUnit_any (hv : Option Addr) (n cap : Nat) (f k : Int) (l : List Sym) (t : Tn) (a : Option Addr) (c : Nat) (w : World) (hT : TmAt w t.1 a c t.2) :
    Calls Try.prog 95 #[.agg #[.slice hv n cap, .int .i64 f, .int .i64 k, .int .i64 (unitI l f), .bool (unitOk l f)], .agg #[.string t.1.1, .int .i64 t.1.2, .slice a (lenF t.2) c]] w fun e w' => e = .returned (.bool (isUnB l f t)) ∧ Below w.heap.size w w' := by
  obtain ⟨⟨nm, s⟩, F⟩ := t
  obtain ⟨u, hu⟩ : ∃ u, unitI l f = u := ⟨_, rfl⟩
  have hr : Hid (isUnB l f ((nm, s), F) = (unitOk l f && (cmpN ((nm, s), F) (constT u) == 0))) := by show _ = _; rw [cmp_const, ← hu]; rfl
  obtain ⟨r, hrr⟩ : ∃ r, (cmpN ((nm, s), F) (constT u) == 0) = r := ⟨_, rfl⟩
  have HC : Hid (∀ V, Below w.heap.size w V → Calls Try.prog 98 #[.agg #[.string nm, .int .i64 s, .slice a (lenF F) c], .agg #[.string ⟨#[]⟩, .int .i64 u, .slice none 0 0]] V fun e w' => e = .returned (.bool r) ∧ Below V.heap.size V w') := fun V hV => by
    have := same_any ((nm, s), F) (constT u) a none c 0 V (hT.below hV) (tm_const V u)
    rw [hrr] at this
    exact this
  rw [hrr] at hr
  rw [hu]
  clear hrr hu hT
  have HB0 : Hid (Below w.heap.size w ((w.alloc (.cells #[.slice hv n cap, .int .i64 f, .int .i64 k, .int .i64 u, .bool (unitOk l f)] 80)).alloc (.cells #[.string nm, .int .i64 s, .slice a (lenF F) c] 27))) := ((Below.refl _ w).alloc (Nat.le_refl _) _).alloc (by simp) _
  cases ho : unitOk l f
  · rw [ho] at hr HB0
    go_enter Try.func95, Try.ntmps95
    go_wp2
    go_ret
    exact ⟨by rw [hr.out]; rfl, HB0.out⟩
  · rw [ho] at hr HB0
    go_enter Try.func95, Try.ntmps95
    go_wp2_with (go_at_call 98; refine (HC.out _ HB0.out).mono ?_; rintro e w1 ⟨rfl, hb1⟩; have HB1 : Hid (Below w.heap.size w w1) := HB0.out.trans (hb1.mono HB0.out.size); clear hb1)
    go_ret
    exact ⟨by rw [hr.out]; rfl, HB1.out⟩
end Go.Proofs.Ytgidgmgpgfonnab
/- What settle of package canon makes of a loose form. -/
namespace Go.Proofs.Ytgidgmgpgfonnab
open Go.RowKit Go.Deep

theorem LoosE.parts {w : World} {A : Bl} {k : Kv} (h : LoosE w A k) (hn : noName k.x.1 = true) : (k.a = none ∧ k.c = 0 ∧ lenF k.l = 0) ∨ ∃ (g : Nat) (cur : Array Value) (ks : List Kv), k.a = some ⟨g, 0, none⟩ ∧ A g ∧ w.heap[g]? = some (Obj.cells cur 27 (0, 0)) ∧ cur.size = k.c * 3 ∧ ks.map Kv.tn = kidsL k.l ∧
    (∀ (j : Nat) (u : Value), (kvCells ks)[j]? = some u → cur[j]? = some u) ∧ GL SepE w ks (fun q => A q ∧ q ≠ g) := by
  obtain ⟨hs, hr⟩ := h
  rcases hr hn with h1 | ⟨g, cur, h1, h2, h3, h4⟩
  · exact .inl h1
  · refine .inr ?_
    rcases hs.list with e | ⟨g', cur', e1, e2, e3, e4⟩
    · exact ⟨g, cur, [], h1, h2, h3, h4, by rw [e]; rfl, fun j u hu => by simp [kvCells] at hu, trivial⟩
    · rw [h1] at e1
      cases e1
      obtain ⟨ks, k1, k2, k3⟩ := sepKids_list e4
      refine ⟨g, cur, ks, h1, h2, h3, h4, k1, fun j u hu => ?_, k3⟩
      have := k2 j u hu
      rwa [Nat.zero_add, cell_of_row w g j cur 27 (0, 0) h3] at this
theorem LoosE.make {w : World} {A : Bl} {x : ByteArray × Int} {g c : Nat} {cur : Array Value} {ks : List Kv} (hx : x.1.size ≤ maxLen) (hg : A g) (hh : w.heap[g]? = some (Obj.cells cur 27 (0, 0))) (hc : cur.size = c * 3) (hcap : c ≤ maxLen) (hlen : ks.length ≤ c) (hfew : ks.length * 48 ≤ 140737488351232)
    (hcells : ∀ (j : Nat) (u : Value), (kvCells ks)[j]? = some u → cur[j]? = some u) (hks : GL SepE w ks (fun q => A q ∧ q ≠ g)) : LoosE w A ⟨x, mkF (ks.map Kv.tn), some ⟨g, 0, none⟩, c⟩ := by
  have hlm : lenF (mkF (ks.map Kv.tn)) = ks.length := by rw [len_mk, List.length_map]
  refine ⟨⟨⟨hx, by rw [hlm]; exact hlen, hcap, by rw [hlm]; exact hfew⟩, .inr ⟨g, cur, rfl, hg, hh, ?_⟩⟩, fun _ => .inr ⟨g, cur, rfl, hg, hh, hc⟩⟩
  refine sepKids_of _ ks _ 0 (by rw [kids_mk]; rfl) (fun j u hu => ?_) (gl_sepL.1 hks)
  rw [Nat.zero_add, cell_of_row w g j cur 27 (0, 0) hh]
  exact hcells j u hu

theorem sortNil_any (cap : Nat) (w : World) : Calls Try.prog 51 #[.slice none 0 cap, .func (.func 52) #[] #[]] w fun e w' => e = .returned (.tuple #[]) ∧ w' = w := AnyF.slices_SortFunc_none Try.sortT none cap _ w

set_option maxRecDepth 100000 in
set_option maxHeartbeats 1000000 in
theorem settle_any (S : Option Addr) (n cap : Nat) (l : List Sym) (k : Kv) (A : Bl) (w : World) (hS : SigAt w S n l) (hE : LoosE w A k) :
    Calls Try.prog 37 #[.slice S n cap, .agg #[.string k.x.1, .int .i64 k.x.2, .slice k.a (lenF k.l) k.c]] w fun e w' => ∃ F, e = .returned (.agg #[.string k.x.1, .int .i64 k.x.2, .slice k.a (lenF F) k.c]) ∧ lenF F = lenF k.l ∧ SetR (sgOf l) k.tn (k.x, F) ∧ LoosE w' A ⟨k.x, F, k.a, k.c⟩ ∧ Turned A w w' := by
  obtain ⟨⟨nm, s⟩, F, a, c⟩ := k
  have HE : Hid (LoosE w A ⟨(nm, s), F, a, c⟩) := hE
  have HK : Hid (∀ W, Below w.heap.size w W → Calls Try.prog 50 #[.slice S n cap, .int .i64 s] W fun e w' => e = .returned (.int .i64 (kindK l s)) ∧ w' = W) := fun W hW => kindAt_any S n cap l s W (hS.below hW)
  have hb2 : Below w.heap.size w ((w.alloc (.cells #[.string nm, .int .i64 s, .slice a (lenF F) c] 27)).alloc (.cells #[.string nm, .int .i64 s, .slice a (lenF F) c] 27)) := ((Below.refl _ w).alloc (Nat.le_refl _) _).alloc (by simp) _
  have HB2 : Hid (Below w.heap.size w ((w.alloc (.cells #[.string nm, .int .i64 s, .slice a (lenF F) c] 27)).alloc (.cells #[.string nm, .int .i64 s, .slice a (lenF F) c] 27))) := hb2
  have HLE : Hid (LoosE ((w.alloc (.cells #[.string nm, .int .i64 s, .slice a (lenF F) c] 27)).alloc (.cells #[.string nm, .int .i64 s, .slice a (lenF F) c] 27)) A ⟨(nm, s), F, a, c⟩) := loosE.keep (fun q _ hq => hb2.block q hq) hE
  have HX : Hid (XBox ((w.alloc (.cells #[.string nm, .int .i64 s, .slice a (lenF F) c] 27)).alloc (.cells #[.string nm, .int .i64 s, .slice a (lenF F) c] 27)) (w.heap.size + 1) (nm, s) (.slice a (lenF F) c)) := by
    have := World.alloc_heap_new (w.alloc (.cells #[.string nm, .int .i64 s, .slice a (lenF F) c] 27)) (.cells #[.string nm, .int .i64 s, .slice a (lenF F) c] 27)
    rw [World.size_alloc] at this
    exact this
  clear hE hS hb2
  cases hn : nm.toList.isEmpty
  · have hj : Hid (jn (sgOf l) ((nm, s), F) = false) := by show _ = _; unfold jn noName; rw [hn]; rfl
    go_enter Try.func37, Try.ntmps37
    go_wp2
    refine bodyPost_ret (results_cell_row rfl _ _ (w.heap.size + 1) 27 #[.string nm, .int .i64 s, .slice a (lenF F) c] (0, 0) _ rfl HX.out Try.underlying27 rfl Try.size27) rfl ?_
    exact ⟨F, rfl, rfl, ⟨rfl, by show if jn (sgOf l) ((nm, s), F) = true then _ else _; rw [hj.out]; simp [Kv.tn]⟩, HLE.out, Turned.of_below HB2.out A⟩
  · have hnn : Hid (noName nm = true) := hn
    cases hk : (kindK l s != 1)
    · have hj : Hid (jn (sgOf l) ((nm, s), F) = false) := by
        show _ = _
        have : (sgOf l).joins s = false := (kindK_ok l s).free.1 (by simpa using hk)
        unfold jn
        rw [this]
        simp
      go_enter Try.func37, Try.ntmps37
      go_wp2_with (go_at_call 50; refine (HK.out _ (((Below.refl _ w).alloc (Nat.le_refl _) _).alloc (by simp) _)).mono ?_; rintro e w2 ⟨rfl, rfl⟩)
      refine bodyPost_ret (results_cell_row rfl _ _ (w.heap.size + 1) 27 #[.string nm, .int .i64 s, .slice a (lenF F) c] (0, 0) _ rfl HX.out Try.underlying27 rfl Try.size27) rfl ?_
      exact ⟨F, rfl, rfl, ⟨rfl, by show if jn (sgOf l) ((nm, s), F) = true then _ else _; rw [hj.out]; simp [Kv.tn]⟩, HLE.out, Turned.of_below HB2.out A⟩
    · have hj : Hid (jn (sgOf l) ((nm, s), F) = true) := by
        show _ = _
        have : (sgOf l).joins s = true := by
          cases h : (sgOf l).joins s with
          | true => rfl
          | false => have := (kindK_ok l s).free.2 h; simp [this] at hk
        unfold jn
        rw [this, hnn.out]
        rfl
      have HSZ := HE.out.1.sizes
      have HSZ' : Hid (Sizes nm (lenF F) c) := HSZ
      clear HSZ
      rcases HE.out.parts hnn.out with ⟨ha, hc, hl⟩ | ⟨g, cur, ks, ha, hg, hh, hcs, hks, hcells, hgl⟩
      · have ha : a = none := ha
        have hc : c = 0 := hc
        have hl : lenF F = 0 := hl
        have hF := len_nil hl
        subst ha hc hF
        have HN : Hid (∀ W, Calls Try.prog 51 #[.slice none 0 0, .func (.func 52) #[] #[]] W fun e w' => e = .returned (.tuple #[]) ∧ w' = W) := fun W => sortNil_any 0 W
        go_enter Try.func37, Try.ntmps37
        go_wp2_with (first | (go_at_call 50; refine (HK.out _ (((Below.refl _ w).alloc (Nat.le_refl _) _).alloc (by simp) _)).mono ?_; rintro e w2 ⟨rfl, rfl⟩) | (go_at_call 51; refine (HN.out _).mono ?_; rintro e w3 ⟨rfl, rfl⟩))
        refine bodyPost_ret (results_cell_row rfl _ _ (w.heap.size + 1) 27 #[.string nm, .int .i64 s, .slice none 0 0] (0, 0) _ rfl HX.out Try.underlying27 rfl Try.size27) rfl ?_
        exact ⟨.nil, rfl, rfl, ⟨rfl, by show if jn (sgOf l) ((nm, s), .nil) = true then _ else _; rw [hj.out]; exact ⟨[], rfl, List.Perm.refl _, List.Pairwise.nil⟩⟩, HLE.out, Turned.of_below HB2.out A⟩
      · have ha : a = some ⟨g, 0, none⟩ := ha
        subst ha
        have hkl : ks.length = lenF F := by have := congrArg List.length hks; rwa [List.length_map, kids_len] at this
        have hglt : g < w.heap.size := (Array.getElem?_eq_some_iff.1 hh).1
        obtain ⟨W0, hW0⟩ : ∃ W0, (w.alloc (.cells #[.string nm, .int .i64 s, .slice (some ⟨g, 0, none⟩) (lenF F) c] 27)).alloc (.cells #[.string ⟨#[]⟩, .int .i64 0, .slice none 0 0] 27) = W0 := ⟨_, rfl⟩
        have hb0 : Below w.heap.size w W0 := by rw [← hW0]; exact ((Below.refl _ w).alloc (Nat.le_refl _) _).alloc (by simp) _
        have b1 : XBox W0 w.heap.size (nm, s) (.slice (some ⟨g, 0, none⟩) (lenF F) c) := by rw [← hW0]; exact (Below.heap_alloc _ _ _ (by simp)).trans (World.alloc_heap_new w _)
        have b2 : XBox W0 (w.heap.size + 1) (⟨#[]⟩, 0) (.slice none 0 0) := by
          have := World.alloc_heap_new (w.alloc (.cells #[.string nm, .int .i64 s, .slice (some ⟨g, 0, none⟩) (lenF F) c] 27)) (.cells #[.string ⟨#[]⟩, .int .i64 0, .slice none 0 0] 27)
          rw [World.size_alloc] at this
          rw [← hW0]; exact this
        have hsz : W0.heap.size = w.heap.size + 2 := by rw [← hW0]; simp
        have HSort : Hid (Calls Try.prog 51 #[.slice (some ⟨g, 0, none⟩) (lenF F) c, .func (.func 52) #[] #[]] W0 fun e w' => e = .returned (.tuple #[]) ∧ ∃ (ms : List Kv) (cur' : Array Value), List.Perm ms ks ∧ Srt (ms.map Kv.tn) ∧ w'.heap[g]? = some (Obj.cells cur' 27 (0, 0)) ∧ cur'.size = cur.size ∧
            (∀ (j : Nat) (u : Value), (kvCells ms)[j]? = some u → cur'[j]? = some u) ∧ Turned (fun q => q = g) W0 w') := by
          have := sort_terms W0 g c cur ks (fun q => A q ∧ q ≠ g) ((hb0.block g hglt).trans hh) hcells (hgl.keep sepE (fun q _ hq => hb0.block q hq)) (fun h => h.2 rfl) (by have := HSZ'.out.len; have := HSZ'.out.few; omega)
          rwa [hkl] at this
        have HKS : Hid (ks.map Kv.tn = kidsL F) := hks
        have HGL : Hid (GL SepE W0 ks (fun q => (A q ∧ q ≠ g) ∧ q < w.heap.size)) := (hgl.within sepE).keep sepE (fun q _ hq => hb0.block q hq)
        have HG : Hid (A g) := hg
        have HCS : Hid (cur.size = c * 3) := hcs
        have HB0 : Hid (Below w.heap.size w W0) := hb0
        have HW : Hid (W0.heap.size = w.heap.size + 2) := hsz
        have HKL : Hid (ks.length = lenF F) := hkl
        have HGLT : Hid (g < w.heap.size) := hglt
        have z0 := b1.c0; have z1 := b1.c1; have z2 := b1.c2
        have B1 : Hid (XBox W0 w.heap.size (nm, s) (.slice (some ⟨g, 0, none⟩) (lenF F) c)) := b1
        have B2 : Hid (XBox W0 (w.heap.size + 1) (⟨#[]⟩, 0) (.slice none 0 0)) := b2
        clear hks hgl hg hcs hb0 hsz hkl b1 b2 hcells hh HX HLE HB2 hglt
        go_enter Try.func37, Try.ntmps37
        go_wp2_with (first
          | (go_at_call 50; refine (HK.out _ HB0.out).mono ?_; rintro e w2 ⟨rfl, rfl⟩)
          | (go_at_call 51; clear hW0 z0 z1 z2; refine HSort.out.mono ?_; rintro e w3 ⟨rfl, ms, cur', hp, hsr, hh3, hcs3, hcells3, ht3⟩
             have X1 : XBox w3 w.heap.size (nm, s) (.slice (some ⟨g, 0, none⟩) (lenF F) c) := (ht3.block _ B1.out.lt (by have := HGLT.out; omega)).trans B1.out
             have X2 : XBox w3 (w.heap.size + 1) (⟨#[]⟩, 0) (.slice none 0 0) := (ht3.block _ B2.out.lt (by have := HGLT.out; omega)).trans B2.out
             have y0 := X1.c0; have y1 := X1.c1; have y2 := X1.c2
             have r0 := X2.c0; have r1 := X2.c1; have r2 := X2.c2
             have g0 := X2.f (k := 0); have g1 := X2.f (k := 1); have g2 := X2.f (k := 2)
             have HX2 : Hid (XBox w3 (w.heap.size + 1) (⟨#[]⟩, 0) (.slice none 0 0)) := X2
             have HP : Hid (List.Perm ms ks) := hp
             have HSR : Hid (Srt (ms.map Kv.tn)) := hsr
             have HH3 : Hid (w3.heap[g]? = some (Obj.cells cur' 27 (0, 0))) := hh3
             have HCS3 : Hid (cur'.size = cur.size) := hcs3
             have HCE3 : Hid (∀ (j : Nat) (u : Value), (kvCells ms)[j]? = some u → cur'[j]? = some u) := hcells3
             have HT3 : Hid (Turned (fun q => q = g) _ w3) := ht3
             clear hp hsr hh3 hcs3 hcells3 ht3 X1 X2))
        refine bodyPost_ret (results_cell_row rfl _ _ (w.heap.size + 1) 27 #[.string nm, .int .i64 s, .slice (some ⟨g, 0, none⟩) (lenF F) c] (0, 0) _ rfl (HX2.out.all (x := (nm, s)) _) Try.underlying27 rfl Try.size27) rfl ?_
        have hml : ms.length = lenF F := HP.out.length_eq.trans HKL.out
        have hlm : lenF (mkF (ms.map Kv.tn)) = lenF F := by rw [len_mk, List.length_map, hml]
        refine ⟨mkF (ms.map Kv.tn), by rw [hlm], hlm, ⟨rfl, ?_⟩, ?_, ?_⟩
        · show if jn (sgOf l) ((nm, s), F) = true then _ else _
          rw [hj.out]
          exact ⟨ms.map Kv.tn, rfl, by show List.Perm (ms.map Kv.tn) (kidsL F); rw [← HKS.out]; exact HP.out.map _, HSR.out⟩
        · have far : ∀ q, q < w.heap.size → (((w3.setCell ⟨w.heap.size + 1, 0, none⟩ (.string nm)).setCell ⟨w.heap.size + 1, 1, none⟩ (.int .i64 s)).setCell ⟨w.heap.size + 1, 2, none⟩ (.slice (some ⟨g, 0, none⟩) (lenF F) c)).heap[q]? = w3.heap[q]? := fun q hq => sets_far (by omega) _ _ _
          have hW := HW.out
          have h3 : GL SepE w3 ms (fun q => (A q ∧ q ≠ g) ∧ q < w.heap.size) := (HGL.out.perm HP.out.symm).keep sepE (fun q hq hlt => HT3.out.block q hlt hq.1.2)
          refine LoosE.make HSZ'.out.name HG.out ((far g HGLT.out).trans HH3.out) (HCS3.out.trans HCS.out) HSZ'.out.cap (by rw [hml]; exact HSZ'.out.len) (by rw [hml]; exact HSZ'.out.few) HCE3.out ?_
          exact (h3.keep sepE (fun q hq hlt => far q hq.2)).mono (fun q hq => hq.1)
        · have hW := HW.out
          have hs3 := HT3.out.size
          have hs0 := HB0.out.size
          refine ⟨HT3.out.os.trans HB0.out.os, HT3.out.tape.trans HB0.out.tape, HT3.out.output.trans HB0.out.output, by simp; omega, fun q hq hna => ?_⟩
          refine (sets_far (by omega) _ _ _).trans ((HT3.out.block q (by omega) (fun e => hna (by rw [e]; exact HG.out))).trans (HB0.out.block q hq))
end Go.Proofs.Ytgidgmgpgfonnab
/- What together of package canon makes of two lists. -/
namespace Go.Proofs.Ytgidgmgpgfonnab
open Go.RowKit Go.Deep

theorem app_loosE {w w' : World} {A B : Bl} {v v' : Value} {ks ms : List Kv} {x : ByteArray × Int} (hx : x.1.size ≤ maxLen) (hks : GL SepE w ks (fun q => A q ∧ some q ≠ v.ownBlock)) (hv : ∀ g, v.ownBlock = some g → A g) (hms : GL SepE w ms B) (hd : ∀ q, A q → ¬ B q)
    (hown : w'.ownsRow 0 27 3 v' (ks ++ ms).length (kvCells (ks ++ ms))) (hg : w.grownBy w' v.ownBlock) (hat : v'.ownBlock = v.ownBlock ∨ v'.ownBlock = some w.heap.size) (hfew : (ks ++ ms).length * 48 ≤ 140737488351232) :
    ∃ a c, v' = .slice a (ks ++ ms).length c ∧ LoosE w' (fun q => A q ∨ B q ∨ w.heap.size ≤ q) ⟨x, mkF ((ks ++ ms).map Kv.tn), a, c⟩ ∧ Turned A w w' := by
  have h1 := (hms.within sepE).append (fun q hq h => hd q hq.1.1 h.1) (hks.within sepE)
  have h1' : GL SepE w (ks ++ ms) (fun q => (A q ∨ B q) ∧ some q ≠ v.ownBlock ∧ q < w.heap.size) := (GL.append (hms.within sepE) (fun q hq h => hd q hq.1.1 h.1) (hks.within sepE)).mono (fun q hq => by
    rcases hq with hq | hq
    · exact ⟨.inl hq.1.1, hq.1.2, hq.2⟩
    · exact ⟨.inr hq.1, fun e => hd q (hv q e.symm) hq.1, hq.2⟩)
  have h2 : GL SepE w' (ks ++ ms) (fun q => (A q ∨ B q) ∧ some q ≠ v.ownBlock ∧ q < w.heap.size) := h1'.keep sepE (fun q hq hlt => hg.block q hlt hq.2.1)
  obtain ⟨a, c, e1, e2⟩ := loosE_of (A := fun q => A q ∨ B q ∨ w.heap.size ≤ q) hx hown (fun g e => by
    rcases hat with h | h
    · exact .inl (hv g (by rw [← h, e]))
    · rw [h] at e; cases e; exact .inr (.inr (Nat.le_refl _))) (h2.mono (fun q hq => ⟨by rcases hq.1 with h | h; exact .inl h; exact .inr (.inl h), by
      rcases hat with h | h
      · rw [h]; exact hq.2.1
      · rw [h]; intro e; cases e; exact absurd hq.2.2 (Nat.lt_irrefl _)⟩)) hfew
  exact ⟨a, c, e1, e2, hg.os, hg.tape, hg.output, hg.size, fun q hq hn => hg.block q hq (fun e => hn (hv q e.symm))⟩

set_option maxRecDepth 100000 in
set_option maxHeartbeats 1000000 in
theorem together_any (ka kb : Kv) (A B : Bl) (w : World) (hA : LoosE w A ka) (hB : LoosE w B kb) (hna : noName ka.x.1 = true) (hnb : noName kb.x.1 = true) (hd : ∀ q, A q → ¬ B q) (hsm : lenF ka.l + lenF kb.l ≤ 4194304) :
    Calls Try.prog 93 #[.slice ka.a (lenF ka.l) ka.c, .slice kb.a (lenF kb.l) kb.c] w fun e w' => ∃ F a c, e = .returned (.slice a (lenF F) c) ∧ List.Perm (kidsL F) (kidsL ka.l ++ kidsL kb.l) ∧ LoosE w' (fun q => (A q ∨ B q) ∨ w.heap.size ≤ q) ⟨ka.x, F, a, c⟩ ∧ Turned (fun q => A q ∨ B q) w w' := by
  obtain ⟨ks, k1, k2, k3, k4⟩ := hA.row hna
  obtain ⟨ms, m1, m2, m3, m4⟩ := hB.row hnb
  obtain ⟨xa, la, aa, ca⟩ := ka
  obtain ⟨xb, lb, ab, cb⟩ := kb
  dsimp only at *
  have hkl : ks.length = lenF la := by have := congrArg List.length k1; rwa [List.length_map, kids_len] at this
  have hml : ms.length = lenF lb := by have := congrArg List.length m1; rwa [List.length_map, kids_len] at this
  have hxs : Hid (xa.1.size ≤ maxLen) := hA.1.sizes.name
  have hca := hA.1.sizes.cap
  have hcb := hB.1.sizes.cap
  have hla := hA.1.sizes.len
  have hlb := hB.1.sizes.len
  have ra := k2 0 (fun q _ => Nat.zero_le q)
  have rb := m2 0 (fun q _ => Nat.zero_le q)
  obtain ⟨a1, c1, e1, _, _, ra2, ra3, _⟩ := row_of_owns ra
  cases e1
  obtain ⟨b1, d1, e2, _, _, rb2, rb3, _⟩ := row_of_owns rb
  cases e2
  have HRA : Hid (w.ownsRow 0 27 3 (.slice aa (lenF la) ca) ks.length (kvCells ks)) := by show World.ownsRow _ _ _ _ _ _ _; rw [hkl]; exact ra
  have HRB : Hid (w.ownsRow 0 27 3 (.slice ab (lenF lb) cb) ms.length (kvCells ms)) := by show World.ownsRow _ _ _ _ _ _ _; rw [hml]; exact rb
  have HRA2 : Hid (RowAt w aa (lenF la) ks) := ra2
  have HRB2 : Hid (RowAt w ab (lenF lb) ms) := rb2
  have HA3 : Hid (aa = none → ca = 0) := fun e => (ra3 e).2
  have HB3 : Hid (ab = none → cb = 0) := fun e => (rb3 e).2
  have HK1 : Hid (ks.map Kv.tn = kidsL la) := k1
  have HM1 : Hid (ms.map Kv.tn = kidsL lb) := m1
  have HK3 : Hid (GL SepE w ks (fun q => A q ∧ some q ≠ (Value.slice aa (lenF la) ca).ownBlock)) := k3
  have HM3 : Hid (GL SepE w ms (fun q => B q ∧ some q ≠ (Value.slice ab (lenF lb) cb).ownBlock)) := m3
  have HK4 : Hid (∀ g, (Value.slice aa (lenF la) ca).ownBlock = some g → A g) := k4
  have HM4 : Hid (∀ g, (Value.slice ab (lenF lb) cb).ownBlock = some g → B g) := m4
  have HKL : Hid (ks.length = lenF la) := hkl
  have HML : Hid (ms.length = lenF lb) := hml
  clear hA hB k1 k2 k3 k4 m1 m2 m3 m4 ra rb ra2 ra3 rb2 rb3 hkl hml
  by_cases hlt : lenF la < lenF lb
  · go_enter Try.func93, Try.ntmps93
    go_wp2_with (at_builtin; refine wpList_append_all rfl _ _ rfl 0 (.slice ab (lenF lb) cb) ms rfl HRB.out aa (lenF la) ca ks rfl HRA2.out HA3.out (by have := HML.out; omega) (Nat.zero_le _) ?_; intro v' w' hown hgrow hat; obtain ⟨a', c', e', hL, hT⟩ := app_loosE (x := xa) hxs.out HM3.out HM4.out (HK3.out.mono (fun q hq => hq.1)) (fun q hq h => hd q h hq) hown hgrow hat (by rw [List.length_append, HML.out, HKL.out]; omega); clear hown hgrow hat)
    go_ret
    refine ⟨mkF ((ms ++ ks).map Kv.tn), a', c', by rw [len_mk, List.length_map, List.length_append]; rfl, ?_, loosE.mono (fun q hq => ?_) hL, hT.mono (fun q _ hq => .inr hq)⟩
    · rw [kids_mk, List.map_append, HM1.out, HK1.out]
      exact List.perm_append_comm
    · rcases hq with h | h | h
      · exact .inl (.inr h)
      · exact .inl (.inl h)
      · exact .inr h
  · go_enter Try.func93, Try.ntmps93
    go_wp2_with (at_builtin; refine wpList_append_all rfl _ _ rfl 0 (.slice aa (lenF la) ca) ks rfl HRA.out ab (lenF lb) cb ms rfl HRB2.out HB3.out (by have := HKL.out; omega) (Nat.zero_le _) ?_; intro v' w' hown hgrow hat; obtain ⟨a', c', e', hL, hT⟩ := app_loosE (x := xa) hxs.out HK3.out HK4.out (HM3.out.mono (fun q hq => hq.1)) (fun q hq h => hd q hq h) hown hgrow hat (by rw [List.length_append, HML.out, HKL.out]; omega); clear hown hgrow hat)
    go_ret
    refine ⟨mkF ((ks ++ ms).map Kv.tn), a', c', by rw [len_mk, List.length_map, List.length_append]; rfl, ?_, loosE.mono (fun q hq => ?_) hL, hT.mono (fun q _ hq => .inl hq)⟩
    · rw [kids_mk, List.map_append, HM1.out, HK1.out]
    · rcases hq with h | h | h
      · exact .inl (.inl h)
      · exact .inl (.inr h)
      · exact .inr h
end Go.Proofs.Ytgidgmgpgfonnab
