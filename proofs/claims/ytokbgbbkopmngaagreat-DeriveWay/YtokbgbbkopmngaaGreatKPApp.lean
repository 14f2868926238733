import Derived.Shelf.SlSortCmp.WholeK
import Derived.Test.YtokbgbbkopmngaaGreatProg
import Derived.Test.YtokbgbbkopmngaaGreatPSep
import Derived.Test.YtokbgbbkopmngaaGreatSgOf
import Derived.Test.YtokbgbbkopmngaaGreatCanS
import Derived.Test.YtokbgbbkopmngaaGreatCanR
import Derived.Test.YtokbgbbkopmngaaGreatPUnit
import Derived.Shelf.SlSortCmp.NoneTotal
import Derived.Deep.RegionHeld3
import Derived.Test.YtokbgbbkopmngaaGreatKDvF
import Derived.Test.YtokbgbbkopmngaaGreatKRSorted
/- append of what another slice of terms holds, be it nil, be it empty: where the new row lies. -/
namespace Go.Proofs.YtokbgbbkopmngaaGreat
open Go.RowKit Go.Deep

theorem run_append_empty {P : Program} {w : World} (base : Nat) (t ty e : TypeId) (i : TypeInfo) (size : Nat) (ht : P.underlying t = some (.slice e)) (hi : P.info? e = some i)
    (v : Value) (n : Nat) (xs : List Value) (hown : w.ownsRow base e size v n xs) (ad : Addr) (c : Nat) :
    (Builtin.append_ #[t, t] ty #[v, .slice (some ad) 0 c]).run P w = .ok v w := by
  have h0 : (loadCells ad 0).run P w = .ok #[] w := rfl
  rcases hown.2 with ⟨rfl, rfl⟩ | ⟨g, cap, cur, rfl, _, _, hnc, _⟩
  · simp [Builtin.append_, run_underlying ht, sizeOf, typeInfo, hi, Builtin.lenOf, Builtin.firstCells, h0]
  · simp [Builtin.append_, run_underlying ht, sizeOf, typeInfo, hi, Builtin.lenOf, Builtin.firstCells, hnc, storeCells, h0]
theorem wpList_append_empty {P : Program} {w : World} {ops : Array Oper} {rest : List Oper} {o : Oper} {a : Act} {Q : Exit → Act → World → Prop} (hgd : o.guard = none) (s x : Operand) (t : TypeId)
    (ho : o.op = .call { callee := .builtin .append, args := #[s, x], argTypes := #[t, t] })
    (base : Nat) (e : TypeId) (i : TypeInfo) (size : Nat) (ht : P.underlying t = some (.slice e)) (hi : P.info? e = some i)
    (v : Value) (n : Nat) (xs : List Value) (hs : a.eval s = v) (hown : w.ownsRow base e size v n xs) (ad : Addr) (c : Nat) (hx : a.eval x = .slice (some ad) 0 c)
    (h : wpList P ops Q rest (a.put o.dst v) w) : wpList P ops Q (o :: rest) a w := by
  refine wpList_plain hgd fun K hK => ?_
  have hrun := run_append_empty (P := P) (w := w) base t o.type e i size ht hi v n xs hown ad c
  unfold Oper.wp
  simp [execOp, ho, resolve, invoke, builtin, hs, hx, hrun, Result.andThen]
  exact hK _ _ h

set_option maxRecDepth 100000 in
theorem wpList_append_all {ops : Array Oper} {rest : List Oper} {o : Oper} {a : Act} {Q : Exit → Act → World → Prop} {W : World} (hgd : o.guard = none) (s x : Operand)
    (ho : o.op = .call { callee := .builtin .append, args := #[s, x], argTypes := #[24, 24] }) (base : Nat) (v : Value) (ks : List Kv) (hs : a.eval s = v) (hown : W.ownsRow base 26 3 v ks.length (kvCells ks))
    (sa : Option Addr) (m c : Nat) (ms : List Kv) (hx : a.eval x = .slice sa m c) (hm : RowAt W sa m ms) (hnil : sa = none → c = 0) (hbig : ks.length + m ≤ 2932031007400) (hbase : base ≤ W.heap.size)
    (h : ∀ v' w', w'.ownsRow base 26 3 v' (ks ++ ms).length (kvCells (ks ++ ms)) → W.grownBy w' v.ownBlock → (v'.ownBlock = v.ownBlock ∨ v'.ownBlock = some W.heap.size) → wpList Tryz.prog ops Q rest (a.put o.dst v') w') : wpList Tryz.prog ops Q (o :: rest) a W := by
  by_cases h0 : sa ≠ none ∧ m = 0
  · obtain ⟨h1, rfl⟩ := h0
    obtain ⟨i0, hi, hz0, hz1, hz2⟩ := info_parts Tryz.info26
    obtain rfl : ms = [] := List.length_eq_zero_iff.1 hm.len.symm
    rcases sa with _ | ad
    · exact absurd rfl h1
    · refine wpList_append_empty hgd s x 24 ho base 26 i0 3 Tryz.underlying24 hi v ks.length (kvCells ks) hs hown ad c hx (h v W (by simpa using hown) ?_ (.inl rfl))
      exact ⟨rfl, rfl, rfl, Nat.le_refl _, fun _ _ _ => rfl⟩
  · exact wpList_append_lst hgd s x ho base v ks hs hown sa m c ms hx hm hnil (fun e => by have : ¬ m = 0 := fun e' => h0 ⟨e, e'⟩; omega) hbig hbase h
end Go.Proofs.YtokbgbbkopmngaaGreat
/- What the library says of slices.SortFunc, laid at this program. -/
namespace Go.Proofs
open Go.Shelf
def Tryz.sortT_ren : Go.Shelf.Ren := ⟨fun | 6 => 66 | 15 => 85 | 14 => 84 | 28 => 99 | 29 => 100 | 20 => 91 | 21 => 92 | 22 => 93 | 23 => 94 | 24 => 95 | 25 => 96 | 26 => 97 | 27 => 98 | 46 => 105 | 47 => 106 | 48 => 107 | 49 => 108 | 50 => 109 | 57 => 118 | n => n, fun | 22 => 24 | 24 => 26 | 25 => 70 | 3 => 3 | 39 => 109 | 0 => 0 | 53 => 124 | 55 => 126 | 4 => 4 | 46 => 118 | 45 => 117 | 50 => 81 | 5 => 5 | 9 => 9 | 66 => 128 | 70 => 132 | 76 => 141 | 77 => 142 | n => n, fun | n => n⟩
theorem Tryz.sortT : Go.Proofs.SlLaysF0.n6 Tryz.prog Tryz.sortT_ren := {
  mixed := by kernel_rfl
  f6 := ⟨Tryz.f66.name, by decide, Tryz.func66.trans (congrArg some (by kernel_rfl))⟩
  f14 := ⟨Tryz.f84.name, by decide, Tryz.func84.trans (congrArg some (by kernel_rfl))⟩
  f15 := Tryz.func85.trans (congrArg some (by kernel_rfl))
  f20 := ⟨Tryz.f91.name, by decide, Tryz.func91.trans (congrArg some (by kernel_rfl))⟩
  f21 := ⟨Tryz.f92.name, by decide, Tryz.func92.trans (congrArg some (by kernel_rfl))⟩
  f22 := ⟨Tryz.f93.name, by decide, Tryz.func93.trans (congrArg some (by kernel_rfl))⟩
  f23 := ⟨Tryz.f94.name, by decide, Tryz.func94.trans (congrArg some (by kernel_rfl))⟩
  f24 := ⟨Tryz.f95.name, by decide, Tryz.func95.trans (congrArg some (by kernel_rfl))⟩
  f25 := ⟨Tryz.f96.name, by decide, Tryz.func96.trans (congrArg some (by kernel_rfl))⟩
  f26 := ⟨Tryz.f97.name, by decide, Tryz.func97.trans (congrArg some (by kernel_rfl))⟩
  f27 := ⟨Tryz.f98.name, by decide, Tryz.func98.trans (congrArg some (by kernel_rfl))⟩
  f28 := Tryz.func99.trans (congrArg some (by kernel_rfl))
  f29 := Tryz.func100.trans (congrArg some (by kernel_rfl))
  f46 := ⟨Tryz.f105.name, by decide, Tryz.func105.trans (congrArg some (by kernel_rfl))⟩
  f47 := Tryz.func106.trans (congrArg some (by kernel_rfl))
  f48 := Tryz.func107.trans (congrArg some (by kernel_rfl))
  f49 := ⟨Tryz.f108.name, by decide, Tryz.func108.trans (congrArg some (by kernel_rfl))⟩
  f50 := ⟨Tryz.f109.name, by decide, Tryz.func109.trans (congrArg some (by kernel_rfl))⟩
  f57 := ⟨Tryz.f118.name, by decide, Tryz.func118.trans (congrArg some (by kernel_rfl))⟩
  t0 := Tryz.underlying0
  a0 := Tryz.isAgg0
  z0 := Tryz.sizeOf0
  v0 := Tryz.zeroValue0
  t3 := Tryz.underlying3
  a3 := Tryz.isAgg3
  z3 := Tryz.sizeOf3
  v3 := Tryz.zeroValue3
  t4 := Tryz.underlying4
  a4 := Tryz.isAgg4
  z4 := Tryz.sizeOf4
  v4 := Tryz.zeroValue4
  t5 := Tryz.underlying5
  a5 := Tryz.isAgg5
  z5 := Tryz.sizeOf5
  v5 := Tryz.zeroValue5
  t9 := Tryz.underlying9
  a9 := Tryz.isAgg9
  z9 := Tryz.sizeOf9
  v9 := Tryz.zeroValue9
  t22 := Tryz.underlying24
  a22 := Tryz.isAgg24
  z22 := Tryz.sizeOf24
  v22 := Tryz.zeroValue24
  t25 := Tryz.underlying70
  a25 := Tryz.isAgg70
  z25 := Tryz.sizeOf70
  v25 := Tryz.zeroValue70
  t39 := Tryz.underlying109
  a39 := Tryz.isAgg109
  z39 := Tryz.sizeOf109
  v39 := Tryz.zeroValue109
  t45 := Tryz.underlying117
  a45 := Tryz.isAgg117
  z45 := Tryz.sizeOf117
  v45 := Tryz.zeroValue117
  t46 := Tryz.underlying118
  a46 := Tryz.isAgg118
  z46 := Tryz.sizeOf118
  v46 := Tryz.zeroValue118
  t50 := Tryz.underlying81
  a50 := Tryz.isAgg81
  z50 := Tryz.sizeOf81
  v50 := Tryz.zeroValue81
  t53 := Tryz.underlying124
  a53 := Tryz.isAgg124
  z53 := Tryz.sizeOf124
  v53 := Tryz.zeroValue124
  t55 := Tryz.underlying126
  a55 := Tryz.isAgg126
  z55 := Tryz.sizeOf126
  v55 := Tryz.zeroValue126
  t66 := Tryz.underlying128
  a66 := Tryz.isAgg128
  z66 := Tryz.sizeOf128
  v66 := Tryz.zeroValue128
  t70 := Tryz.underlying132
  a70 := Tryz.isAgg132
  z70 := Tryz.sizeOf132
  v70 := Tryz.zeroValue132
  t76 := Tryz.underlying141
  a76 := Tryz.isAgg141
  z76 := Tryz.sizeOf141
  v76 := Tryz.zeroValue141
  t77 := Tryz.underlying142
  a77 := Tryz.isAgg142
  z77 := Tryz.sizeOf142
  v77 := Tryz.zeroValue142 }
end Go.Proofs
/- What slices.SortFunc makes of a row of terms by Compare of package terms: the row in order, all else as it was. -/
namespace Go.Proofs.YtokbgbbkopmngaaGreat
open Go.RowKit Go.Deep

/-- Only blocks of A have turned. -/
structure Turned (A : Bl) (w w' : World) : Prop where
  os : w'.os = w.os
  tape : w'.tape = w.tape
  output : w'.output = w.output
  size : w.heap.size ≤ w'.heap.size
  block : ∀ k, k < w.heap.size → ¬ A k → w'.heap[k]? = w.heap[k]?
theorem Turned.refl (A : Bl) (w : World) : Turned A w w := ⟨rfl, rfl, rfl, Nat.le_refl _, fun _ _ _ => rfl⟩
theorem Turned.trans {A : Bl} {a b c : World} (h : Turned A a b) (k : Turned A b c) : Turned A a c :=
  ⟨k.os.trans h.os, k.tape.trans h.tape, k.output.trans h.output, Nat.le_trans h.size k.size, fun q hq hA => (k.block q (Nat.lt_of_lt_of_le hq h.size) hA).trans (h.block q hq hA)⟩
theorem Turned.mono {A A' : Bl} {w w' : World} (h : Turned A w w') (hA : ∀ q, q < w.heap.size → A q → A' q) : Turned A' w w' := ⟨h.os, h.tape, h.output, h.size, fun q hq hn => h.block q hq fun ha => hn (hA q hq ha)⟩
theorem Turned.of_below {w w' : World} (h : Below w.heap.size w w') (A : Bl) : Turned A w w' := ⟨h.os, h.tape, h.output, h.size, fun q hq _ => h.block q hq⟩
theorem Turned.below {A : Bl} {B : Nat} {w w' : World} (h : Turned A w w') (hA : ∀ q, A q → B ≤ q) (hB : B ≤ w.heap.size) : Below B w w' := ⟨h.os, h.tape, h.output, h.size, fun q hq => h.block q (by omega) (fun ha => by have := hA q ha; omega)⟩

theorem kvCells_nth : ∀ (ks : List Kv) (i c : Nat) {k : Kv}, ks[i]? = some k → c < 3 → (kvCells ks)[i * 3 + c]? = k.cells[c]?
  | [], _, _, _, h, _ => by simp at h
  | k :: r, 0, c, k', h, hc => by
    simp only [List.getElem?_cons_zero, Option.some.injEq] at h
    subst h
    show (k.cells ++ kvCells r)[0 * 3 + c]? = _
    rw [Nat.zero_mul, Nat.zero_add, List.getElem?_append_left (by simpa [Kv.cells] using hc)]
  | k :: r, i + 1, c, k', h, hc => by
    simp only [List.getElem?_cons_succ] at h
    show (k.cells ++ kvCells r)[(i + 1) * 3 + c]? = _
    rw [List.getElem?_append_right (by simp [Kv.cells]; omega), show (i + 1) * 3 + c - k.cells.length = i * 3 + c by simp [Kv.cells]; omega]
    exact kvCells_nth r i c h hc

abbrev Gd (w : World) (g : Nat) (k : Kv) : Prop := ∃ A : Bl, SepE w A k ∧ ¬ A g
def leafK : Kv := ⟨(⟨#[]⟩, 0), .nil, none, 0⟩
theorem gd_leaf (w : World) (g : Nat) : Gd w g leafK := ⟨fun _ => False, ⟨⟨by decide, Nat.le_refl _, Nat.zero_le _, by simp [leafK, lenF]⟩, .inl rfl⟩, fun h => h⟩
abbrev GdK (w : World) (g : Nat) := { k : Kv // Gd w g k }
def encG {w : World} {g : Nat} (k : GdK w g) : List Value := k.1.cells
def cmpG {w : World} {g : Nat} (x y : GdK w g) : Int := cmpN x.1.tn y.1.tn
theorem swoG {w : World} {g : Nat} : Sort.SWO (ltOf (cmpG (w := w) (g := g))) where
  irrefl x := by
    have := cmpN_anti x.1.tn x.1.tn
    unfold ltOf cmpG
    rw [decide_eq_false_iff_not]
    omega
  trans x y z h1 h2 := by
    unfold ltOf cmpG at *
    rw [decide_eq_true_iff] at *
    exact (cmpN_cons x.1.tn y.1.tn z.1.tn).lt h1 h2
  ntrans x y z h1 h2 := by
    unfold ltOf cmpG at *
    rw [decide_eq_false_iff_not] at *
    have a1 := cmpN_anti x.1.tn y.1.tn
    have a2 := cmpN_anti y.1.tn z.1.tn
    have a3 := cmpN_anti x.1.tn z.1.tn
    have : leN z.1.tn x.1.tn := leN_trans (y := y.1.tn) (by unfold leN; omega) (by unfold leN; omega)
    unfold leN at this
    omega
theorem heap_sortK {α : Type} [Inhabited α] (enc : α → List Value) (w : World) (g m : Nat) (d : Array α) (os : Array Obj) {q : Nat} (hq : q < w.heap.size) :
    (sortWorldK enc 3 w g 0 m d os).heap[q]? = if q = g then (w.heap[q]?).map (Sort.onCells (Sort.putCells id 0 (Sort.flatK enc 3 d))) else w.heap[q]? := by
  unfold sortWorldK
  rw [Sort.heap_grow_old _ _ (by unfold Sort.putRowK; rw [Sort.size_putRow]; exact hq)]
  unfold Sort.putRowK Sort.putRow Sort.mapBlock
  simp only [Array.getElem?_modify, Sort.ahead]
  by_cases e : q = g
  · subst e; simp
  · rw [if_neg e, if_neg (fun h => e h.symm)]

set_option maxRecDepth 100000 in
theorem cmp_lays (w : World) (g n : Nat) [Inhabited (GdK w g)] : CmpLays Tryz.prog 41 #[] (encG (w := w) (g := g)) 3 cmpG g 0 n w := by
  intro m os dk _ x y
  have tm : ∀ k : GdK w g, TmAt (sortWorldK (encG (w := w) (g := g)) 3 w g 0 m dk os) k.1.x k.1.a k.1.c k.1.l := fun k => by
    obtain ⟨k, A, hA, hg⟩ := k
    refine SepTm.tm (SepTm.keep (A := A) (fun q hq hlt => ?_) hA)
    rw [heap_sortK _ _ _ _ _ _ hlt, if_neg (by intro e; subst e; exact hg hq)]
  refine (compare_all _ x.1.x y.1.x x.1.a y.1.a x.1.c y.1.c x.1.l y.1.l _ (Nat.le_refl _) (tm x) (tm y)).mono ?_
  rintro e w' ⟨rfl, os', rfl⟩
  exact ⟨rfl, 0, os', rfl⟩

theorem Tryz.enter41 : ∀ args w, (callFunc 41 args).run Tryz.prog w = .ok (.enter 41 args) w := enters_of Tryz.func41 (by kernel_rfl) rfl

set_option maxRecDepth 100000 in
theorem sort_terms (w : World) (g cap : Nat) (cur : Array Value) (ks : List Kv) (A : Bl) (hg : w.heap[g]? = some (Obj.cells cur 26 (0, 0))) (hc : ∀ (j : Nat) (u : Value), (kvCells ks)[j]? = some u → cur[j]? = some u) (hks : GL SepE w ks A) (hA : ¬ A g) (hn : ks.length < 4611686018427387904) :
    Calls Tryz.prog 66 #[.slice (some ⟨g, 0, none⟩) ks.length cap, .func (.func 41) #[] #[]] w fun e w' => e = .returned (.tuple #[]) ∧ ∃ (ms : List Kv) (cur' : Array Value), List.Perm ms ks ∧ Srt (ms.map Kv.tn) ∧ w'.heap[g]? = some (Obj.cells cur' 26 (0, 0)) ∧ cur'.size = cur.size ∧
      (∀ (j : Nat) (u : Value), (kvCells ms)[j]? = some u → cur'[j]? = some u) ∧ Turned (fun q => q = g) w w' := by
  letI : Inhabited (GdK w g) := ⟨⟨leafK, gd_leaf w g⟩⟩
  have hgd : ∀ k ∈ ks, Gd w g k := fun k hk => by
    obtain ⟨A1, h1, h2⟩ := hks.mem hk
    exact ⟨A1, h2, fun h => hA (h1 g h)⟩
  have hglt : g < w.heap.size := (Array.getElem?_eq_some_iff.1 hg).1
  let d : Array (GdK w g) := (ks.attachWith (Gd w g) hgd).toArray
  have hds : d.size = ks.length := by simp [d]
  have hdl : d.toList.map Subtype.val = ks := by simp [d]
  have cellAt : ∀ (d : Array (GdK w g)) (j : Nat), j < d.size * 3 → (kvCells (d.toList.map Subtype.val))[j]? = some (Sort.flatK encG 3 d)[j]! := fun d j hj => by
    rw [Sort.get_flatK _ _ _ _ hj]
    have hi : j / 3 < d.size := by omega
    have h1 : (d.toList.map Subtype.val)[j / 3]? = some (d[j / 3]!).1 := by
      rw [List.getElem?_map, Array.getElem?_toList, Array.getElem?_eq_getElem hi, getElem!_pos d _ hi]; rfl
    have h2 := kvCells_nth _ (j / 3) (j % 3) h1 (by omega)
    rw [show j / 3 * 3 + j % 3 = j by omega] at h2
    rw [h2]
    have hl : j % 3 < (encG d[j / 3]!).length := by show _ < 3; omega
    rw [getElem!_pos (encG d[j / 3]!) (j % 3) hl]
    exact List.getElem?_eq_getElem hl
  have hH : Sort.HoldsK encG 3 w g 0 d := fun j hj => by
    rw [Sort.size_flatK] at hj
    have h1 := cellAt d j hj
    rw [hdl] at h1
    refine ⟨?_, by simp [World.frozen?, hg]⟩
    rw [Nat.zero_add, cell_of_row w g j cur 26 (0, 0) hg]
    exact hc j _ h1
  have hs := AnyQ.slices_SortFunc Tryz.sortT 3 Tryz.isAgg26 Tryz.sizeOf26 encG (fun _ => rfl) (fun x v hv => kv_one x.1 v hv) cmpG swoG 41 #[] g 0 cap d w Tryz.enter41 (cmp_lays w g d.size) hH hglt (by rw [hds]; exact hn)
  rw [hds] at hs
  refine Calls.mono hs ?_
  rintro e w' ⟨rfl, d', n, os, hp, hso, rfl⟩
  obtain ⟨p1, _, p3⟩ := hp
  have hd's : d'.size = ks.length := p1.trans hds
  have hperm : List.Perm (d'.toList.map Subtype.val) ks := by
    have e1 : (d'.extract 0 ks.length).toList = d'.toList := by rw [← hd's]; simp
    have e2 : (d.extract 0 ks.length).toList = d.toList := by rw [← hds]; simp
    rw [e1, e2] at p3
    have := p3.map Subtype.val
    rwa [hdl] at this
  have hsz : (Sort.putCells id 0 (Sort.flatK encG 3 d') cur).size = cur.size := by simp [Sort.putCells]
  refine ⟨rfl, d'.toList.map Subtype.val, Sort.putCells id 0 (Sort.flatK encG 3 d') cur, hperm, ?_, ?_, hsz, ?_, ?_⟩
  · unfold Srt
    rw [List.pairwise_iff_getElem]
    intro i j hi hj hij
    simp only [List.length_map, Array.length_toList] at hi hj
    have h1 := hso i j (Nat.zero_le _) hij (by omega)
    unfold ltOf cmpG at h1
    rw [decide_eq_false_iff_not, getElem!_pos d' i hi, getElem!_pos d' j hj] at h1
    simp only [List.getElem_map, Array.getElem_toList]
    have := cmpN_anti (d'[i]).1.tn (d'[j]).1.tn
    unfold leN
    omega
  · rw [heap_sortK _ _ _ _ _ _ hglt, if_pos rfl, hg]
    rfl
  · intro j u hu
    have hj : j < d'.size * 3 := by
      rcases Nat.lt_or_ge j (d'.size * 3) with h' | h'
      · exact h'
      · rw [List.getElem?_eq_none (by rw [kvCells_len, List.length_map, Array.length_toList]; exact h')] at hu; cases hu
    have h1 := cellAt d' j hj
    rw [hu] at h1
    have hjc : j < cur.size := by
      obtain ⟨u', hu'⟩ := kvCells_get (ks := ks) (j := j) (by omega)
      have := hc j u' hu'
      exact (Array.getElem?_eq_some_iff.1 this).1
    unfold Sort.putCells
    rw [Array.getElem?_mapIdx, Array.getElem?_eq_getElem hjc, Option.map_some, if_pos ⟨Nat.zero_le _, by rw [Sort.size_flatK]; omega⟩, Nat.sub_zero]
    exact h1.symm
  · refine ⟨rfl, rfl, rfl, ?_, fun q hq hne => ?_⟩
    · unfold sortWorldK Sort.putRowK
      rw [Sort.size_grow, Sort.size_putRow]
      exact Nat.le_add_right _ _
    · rw [heap_sortK _ _ _ _ _ _ hq, if_neg hne]
end Go.Proofs.YtokbgbbkopmngaaGreat
/- The program's own way to canonical forms, without any program: forms that are loose at the top, laid one behind the other, then put in order. -/
namespace Go.Proofs.YtokbgbbkopmngaaGreat
open Go.RowKit Go.Deep

/-! ### two lists, one beside the other -/
def All2 {α β : Type} (R : α → β → Prop) : List α → List β → Prop
  | [], [] => True
  | a :: xs, b :: ys => R a b ∧ All2 R xs ys
  | _, _ => False
theorem All2.snoc {α β : Type} {R : α → β → Prop} {a : α} {b : β} (h : R a b) : ∀ {xs : List α} {ys : List β}, All2 R xs ys → All2 R (xs ++ [a]) (ys ++ [b])
  | [], [], _ => ⟨h, trivial⟩
  | [], _ :: _, k => k.elim
  | _ :: _, [], k => k.elim
  | _ :: _, _ :: _, k => ⟨k.1, All2.snoc h k.2⟩
theorem All2.len {α β : Type} {R : α → β → Prop} : ∀ {xs : List α} {ys : List β}, All2 R xs ys → xs.length = ys.length
  | [], [], _ => rfl
  | [], _ :: _, k => k.elim
  | _ :: _, [], k => k.elim
  | _ :: _, _ :: _, k => by simp [All2.len k.2]
theorem All2.mono {α β : Type} {R R' : α → β → Prop} : ∀ {xs : List α} {ys : List β}, (∀ a ∈ xs, ∀ b, R a b → R' a b) → All2 R xs ys → All2 R' xs ys
  | [], [], _, _ => trivial
  | [], _ :: _, _, k => k.elim
  | _ :: _, [], _, k => k.elim
  | a :: _, b :: _, h, k => ⟨h a (by simp) b k.1, All2.mono (fun x hx => h x (by simp [hx])) k.2⟩

/-! ### loose forms -/
def jn (S : Sg) (t : Tn) : Bool := noName t.1.1 && S.joins t.1.2
/-- The same but for the order at the top. -/
def Mod (S : Sg) (c r : Tn) : Prop := r.1 = c.1 ∧ if jn S c then List.Perm (kidsL r.2) (kidsL c.2) else r = c
/-- Put in order at the top. -/
def SetR (S : Sg) (r r' : Tn) : Prop := r'.1 = r.1 ∧ if jn S r then ∃ l, r'.2 = mkF l ∧ List.Perm l (kidsL r.2) ∧ Srt l else r' = r
theorem mod_set {S : Sg} {ar : Int → Nat} {c r r' : Tn} (hc : CanT S ar c) (h : Mod S c r) (k : SetR S r r') : r' = c := by
  obtain ⟨h1, h2⟩ := h
  obtain ⟨k1, k2⟩ := k
  have e : jn S r = jn S c := by unfold jn; rw [h1]
  rw [e] at k2
  cases hj : jn S c with
  | false =>
    rw [hj] at h2 k2
    simp only [Bool.false_eq_true, if_false] at h2 k2
    rw [k2, h2]
  | true =>
    rw [hj] at h2 k2
    simp only [if_true] at h2 k2
    obtain ⟨l, e1, e2, e3⟩ := k2
    unfold jn at hj
    rw [Bool.and_eq_true] at hj
    have hcan := hc.1
    unfold can1 at hcan
    rw [if_neg (by rw [hj.1]; simp), if_pos hj.2] at hcan
    have e4 : kidsL c.2 = l := srt_eq (can_kids hc.2) hcan.2.2.1 e3 (h2.symm.trans e2.symm)
    have e5 := can_mk_kids hc.2
    rw [e4] at e5
    exact Prod.ext (k1.trans h1) (e1.trans e5)
theorem set_size {S : Sg} {r r' : Tn} (k : SetR S r r') : sizeT r' = sizeT r := by
  obtain ⟨_, k2⟩ := k
  cases hj : jn S r with
  | false => rw [hj] at k2; simp only [Bool.false_eq_true, if_false] at k2; rw [k2]
  | true =>
    rw [hj] at k2
    simp only [if_true] at k2
    obtain ⟨l, e1, e2, _⟩ := k2
    unfold sizeT
    rw [e1, nodes_mk, nodes_sizes r.2, sizes_perm e2]
theorem mod_un {S : Sg} {ar : Int → Nat} (hS : S.Ok ar) {f : Int} {c r : Tn} (h : Mod S c r) : isUn S f c = isUn S f r := by
  obtain ⟨h1, h2⟩ := h
  have key : ∀ u, S.unit f = some u → c.1 = (noB, u) → r = c := fun u hu e => by
    have : jn S c = false := by unfold jn; rw [e]; simp [hS.free f u hu]
    rw [this] at h2
    simpa using h2
  cases hc : isUn S f c with
  | true =>
    obtain ⟨u, hu, rfl⟩ := isUn_some hc
    rw [key u hu rfl]
    exact hc.symm
  | false =>
    cases hr : isUn S f r with
    | false => rfl
    | true =>
      obtain ⟨u, hu, rfl⟩ := isUn_some hr
      rw [← key u hu h1.symm] at hc
      rw [hc] at hr
      exact hr
/-- What a term gives to its symbol's list, in some order. -/
def PartR (S : Sg) (f : Int) (r : Tn) (p : List Tn) : Prop := if headed f r then List.Perm p (kidsL r.2) else ∃ r', SetR S r r' ∧ p = [r']
def FlatR (S : Sg) (f : Int) : List Tn → List Tn → Prop
  | [], out => out = []
  | r :: rs, out => ∃ p q, PartR S f r p ∧ FlatR S f rs q ∧ List.Perm out (p ++ q)
theorem FlatR.snoc {S : Sg} {f : Int} {r : Tn} {p : List Tn} (hp : PartR S f r p) : ∀ {rs out out' : List Tn}, FlatR S f rs out → List.Perm out' (out ++ p) → FlatR S f (rs ++ [r]) out'
  | [], out, out', h, k => by
    have h : out = [] := h
    subst h
    exact ⟨p, [], hp, rfl, by simpa using k⟩
  | x :: rs, out, out', ⟨p', q', h1, h2, h3⟩, k => ⟨p', q' ++ p, h1, FlatR.snoc hp h2 (List.Perm.refl _), k.trans (by rw [← List.append_assoc]; exact h3.append_right p)⟩
theorem part_size {S : Sg} {f : Int} {r : Tn} {p : List Tn} (h : PartR S f r p) : sizes p ≤ sizeT r := by
  unfold PartR at h
  split at h
  · rw [sizes_perm h, ← nodes_sizes]; unfold sizeT; omega
  · obtain ⟨r', hr, rfl⟩ := h
    rw [sizes_cons, sizes_nil, set_size hr]; omega
theorem flat_sizes {S : Sg} {f : Int} : ∀ {rs out : List Tn}, FlatR S f rs out → sizes out ≤ sizes rs
  | [], out, h => by
    have h : out = [] := h
    subst h
    exact Nat.le_refl _
  | r :: rs, out, ⟨p, q, h1, h2, h3⟩ => by
    rw [sizes_perm h3, sizes_append, sizes_cons]
    have := part_size h1
    have := flat_sizes h2
    omega
theorem part_mod {S : Sg} {ar : Int → Nat} (hS : S.Ok ar) {f : Int} (hj : S.joins f = true) {c r : Tn} (hc : CanT S ar c) (h : Mod S c r) (hu : isUn S f r = false) {p : List Tn} (hp : PartR S f r p) : List.Perm p (partsN S f c) := by
  unfold partsN
  rw [if_neg (by simp [hj]), mod_un hS h, hu]
  have e : headed f r = headed f c := by unfold headed; rw [h.1]
  unfold PartR at hp
  rw [e] at hp
  cases hh : headed f c with
  | true =>
    rw [hh] at hp
    simp only [if_true] at hp
    have hjn : jn S c = true := by
      obtain ⟨e1, e2⟩ := headed_iff.1 hh
      unfold jn; rw [e1, e2, hj]; rfl
    have h2 := h.2
    rw [hjn] at h2
    simp only [if_true] at h2
    simpa using hp.trans h2
  | false =>
    rw [hh] at hp
    simp only [Bool.false_eq_true, if_false] at hp
    obtain ⟨r', hr, rfl⟩ := hp
    rw [mod_set hc h hr]
    simp
theorem flat_mod {S : Sg} {ar : Int → Nat} (hS : S.Ok ar) {f : Int} (hj : S.joins f = true) : ∀ {ts rs out : List Tn}, (∀ t ∈ ts, RightT S ar t) → All2 (fun t r => Mod S (canonT S t) r) ts rs → (∀ r ∈ rs, isUn S f r = false) → FlatR S f rs out → List.Perm out (ts.flatMap (pc S f))
  | [], [], out, _, _, _, h => by
    have h : out = [] := h
    subst h
    simp
  | [], _ :: _, _, _, h, _, _ => h.elim
  | _ :: _, [], _, _, h, _, _ => h.elim
  | t :: ts, r :: rs, out, ht, h, hu, ⟨p, q, h1, h2, h3⟩ => by
    rw [List.flatMap_cons]
    exact h3.trans ((part_mod hS hj (canonT_can hS (ht t (by simp))) h.1 (hu r (by simp)) h1).append (flat_mod hS hj (fun x hx => ht x (by simp [hx])) h.2 (fun x hx => hu x (by simp [hx])) h2))
def FlatOut (S : Sg) (f : Int) (rs : List Tn) (r : Tn) : Prop := rs = [r] ∨ (rs.length ≠ 1 ∧ ∃ out, FlatR S f rs out ∧ r = ((noB, f), mkF out))
theorem flatout_size {S : Sg} {f : Int} {rs : List Tn} {r : Tn} (h : FlatOut S f rs r) : sizeT r ≤ sizes rs + 1 := by
  rcases h with rfl | ⟨_, out, h1, rfl⟩
  · rw [sizes_cons, sizes_nil]; omega
  · unfold sizeT
    rw [nodes_mk]
    have := flat_sizes h1
    omega
theorem pc_pos {S : Sg} {ar : Int → Nat} (hS : S.Ok ar) {f : Int} (hj : S.joins f = true) {t r : Tn} (ht : RightT S ar t) (h : Mod S (canonT S t) r) (hu : isUn S f r = false) : 1 ≤ (pc S f t).length := by
  unfold pc partsN
  rw [if_neg (by simp [hj]), mod_un hS h, hu]
  cases hh : headed f (canonT S t) with
  | true => have := (can_head hj (canonT_can hS ht) hh).2.1; simp; omega
  | false => simp
theorem flat_long {S : Sg} {ar : Int → Nat} (hS : S.Ok ar) {f : Int} (hj : S.joins f = true) : ∀ {ts rs : List Tn}, (∀ t ∈ ts, RightT S ar t) → All2 (fun t r => Mod S (canonT S t) r) ts rs → (∀ r ∈ rs, isUn S f r = false) → rs.length ≤ (ts.flatMap (pc S f)).length
  | [], [], _, _, _ => by simp
  | [], _ :: _, _, h, _ => h.elim
  | _ :: _, [], _, h, _ => h.elim
  | t :: ts, r :: rs, ht, h, hu => by
    rw [List.flatMap_cons, List.length_append, List.length_cons]
    have := pc_pos hS hj (ht t (by simp)) h.1 (hu r (by simp))
    have := flat_long hS hj (fun x hx => ht x (by simp [hx])) h.2 (fun x hx => hu x (by simp [hx]))
    omega
theorem flatout_mod {S : Sg} {ar : Int → Nat} (hS : S.Ok ar) {f : Int} (hj : S.joins f = true) {ts rs : List Tn} {r : Tn} (ht : ∀ t ∈ ts, RightT S ar t) (h : All2 (fun t r => Mod S (canonT S t) r) ts rs) (hu : ∀ r ∈ rs, isUn S f r = false) (hn : rs ≠ []) (ho : FlatOut S f rs r) :
    ∃ c, joinL S f (ts.flatMap (pc S f)) = some c ∧ Mod S c r := by
  rcases ho with rfl | ⟨hl, out, h1, rfl⟩
  · match ts, h with
    | [t], h =>
      refine ⟨canonT S t, ?_, h.1⟩
      rw [List.flatMap_cons, List.flatMap_nil, List.append_nil]
      exact join_parts hj (canonT_can hS (ht t (by simp)))
    | [], h => exact h.elim
    | _ :: _ :: _, h => exact h.2.elim
  · have h2 : 2 ≤ (ts.flatMap (pc S f)).length := by
      have := flat_long hS hj ht h hu
      have : rs.length ≠ 0 := fun e => hn (List.length_eq_zero_iff.1 e)
      omega
    refine ⟨_, join_many S f h2, rfl, ?_⟩
    have : jn S ((noB, f), mkF (sortN (ts.flatMap (pc S f)))) = true := by unfold jn; simp [noName_noB, hj]
    rw [this]
    simp only [if_true]
    rw [kids_mk, kids_mk]
    exact (flat_mod hS hj ht h hu h1).trans (sortN_perm _).symm
theorem drop_units {S : Sg} {ar : Int → Nat} (hS : S.Ok ar) {f : Int} (hj : S.joins f = true) : ∀ {ts rs : List Tn}, (∀ t ∈ ts, RightT S ar t) → All2 (fun t r => Mod S (canonT S t) r) ts rs →
    ∃ ts', All2 (fun t r => Mod S (canonT S t) r) ts' (rs.filter fun r => !isUn S f r) ∧ (∀ t ∈ ts', RightT S ar t) ∧ ts.flatMap (pc S f) = ts'.flatMap (pc S f)
  | [], [], _, _ => ⟨[], trivial, by simp, rfl⟩
  | [], _ :: _, _, h => h.elim
  | _ :: _, [], _, h => h.elim
  | t :: ts, r :: rs, ht, h => by
    obtain ⟨ts', k1, k2, k3⟩ := drop_units hS hj (fun x hx => ht x (by simp [hx])) h.2
    cases hu : isUn S f r with
    | true =>
      refine ⟨ts', by simpa [List.filter_cons, hu] using k1, k2, ?_⟩
      rw [List.flatMap_cons, k3]
      have : pc S f t = [] := by
        unfold pc partsN
        rw [if_neg (by simp [hj]), mod_un hS h.1, hu]
        simp
      rw [this]
      rfl
    | false =>
      refine ⟨t :: ts', by simpa [List.filter_cons, hu] using ⟨h.1, k1⟩, fun x hx => ?_, by rw [List.flatMap_cons, List.flatMap_cons, k3]⟩
      rcases List.mem_cons.1 hx with rfl | hx
      · exact ht _ (by simp)
      · exact k2 x hx

/-! ### a symbol's term of loose forms -/
def LayR (S : Sg) (k f u : Int) (rs : List Tn) (r : Tn) : Prop :=
  if k = 1 then ∃ rs', All2 (SetR S) rs rs' ∧ r = ((noB, f), mkF rs')
  else if k = 2 then FlatOut S f rs r
  else ((rs.filter fun r => !isUn S f r) = [] ∧ r = constT u) ∨ ((rs.filter fun r => !isUn S f r) ≠ [] ∧ FlatOut S f (rs.filter fun r => !isUn S f r) r)
/-- A form of t, loose at the top; no greater than t, whatever t is. -/
def LooseR (S : Sg) (ar : Int → Nat) (t r : Tn) : Prop := sizeT r ≤ sizeT t ∧ (S.Ok ar → RightT S ar t → Mod S (canonT S t) r)
theorem loose_sizes {S : Sg} {ar : Int → Nat} : ∀ {ts rs : List Tn}, All2 (LooseR S ar) ts rs → sizes rs ≤ sizes ts
  | [], [], _ => Nat.le_refl _
  | [], _ :: _, h => h.elim
  | _ :: _, [], h => h.elim
  | t :: ts, r :: rs, h => by
    rw [sizes_cons, sizes_cons]
    have := h.1.1
    have := loose_sizes h.2
    omega
theorem loose_mods {S : Sg} {ar : Int → Nat} (hS : S.Ok ar) : ∀ {ts rs : List Tn}, (∀ t ∈ ts, RightT S ar t) → All2 (LooseR S ar) ts rs → All2 (fun t r => Mod S (canonT S t) r) ts rs
  | [], [], _, _ => trivial
  | [], _ :: _, _, h => h.elim
  | _ :: _, [], _, h => h.elim
  | t :: ts, r :: rs, ht, h => ⟨h.1.2 hS (ht t (by simp)), loose_mods hS (fun x hx => ht x (by simp [hx])) h.2⟩
theorem set_sizes {S : Sg} : ∀ {rs rs' : List Tn}, All2 (SetR S) rs rs' → sizes rs' = sizes rs
  | [], [], _ => rfl
  | [], _ :: _, h => h.elim
  | _ :: _, [], h => h.elim
  | r :: rs, r' :: rs', h => by rw [sizes_cons, sizes_cons, set_size h.1, set_sizes h.2]
theorem sizes_filter (p : Tn → Bool) : ∀ rs : List Tn, sizes (rs.filter p) ≤ sizes rs
  | [] => Nat.le_refl _
  | r :: rs => by
    have := sizes_filter p rs
    rw [List.filter_cons]
    split
    · rw [sizes_cons, sizes_cons]; omega
    · rw [sizes_cons]; omega
theorem lay_size {S : Sg} {k f u : Int} {rs : List Tn} {r : Tn} (h : LayR S k f u rs r) : sizeT r ≤ sizes rs + 1 := by
  unfold LayR at h
  split at h
  · obtain ⟨rs', h1, rfl⟩ := h
    unfold sizeT
    rw [nodes_mk, set_sizes h1]
    omega
  · split at h
    · exact flatout_size h
    · rcases h with ⟨_, rfl⟩ | ⟨_, h⟩
      · simp [sizeT, constT, nodesF]
      · have := flatout_size h
        have := sizes_filter (fun r => !isUn S f r) rs
        omega
theorem mods_set {S : Sg} {ar : Int → Nat} (hS : S.Ok ar) : ∀ {ts rs rs' : List Tn}, (∀ t ∈ ts, RightT S ar t) → All2 (fun t r => Mod S (canonT S t) r) ts rs → All2 (SetR S) rs rs' → rs' = ts.map (canonT S)
  | [], [], [], _, _, _ => rfl
  | [], _ :: _, _, _, h, _ => h.elim
  | _ :: _, [], _, _, h, _ => h.elim
  | [], [], _ :: _, _, _, h => h.elim
  | _ :: _, _ :: _, [], _, _, h => h.elim
  | t :: ts, r :: rs, r' :: rs', ht, h, k => by rw [List.map_cons, mod_set (canonT_can hS (ht t (by simp))) h.1 k.1, mods_set hS (fun x hx => ht x (by simp [hx])) h.2 k.2]
/-- What the kinds say of a symbol. -/
structure KindOk (S : Sg) (k f u : Int) : Prop where
  free : k = 1 ↔ S.joins f = false
  ac : k = 2 → S.unit f = none
  unit : ∀ v, S.unit f = some v → v = u
theorem lay_join {S : Sg} {ar : Int → Nat} (hS : S.Ok ar) {k f u : Int} (hk : KindOk S k f u) (hj : S.joins f = true) {ts rs : List Tn} {r : Tn} (ht : ∀ t ∈ ts, RightT S ar t) (h : All2 (LooseR S ar) ts rs) (hl : LayR S k f u rs r) (hn : ts ≠ [] ∨ S.unit f ≠ none) :
    ∃ c, joinL S f (ts.flatMap (pc S f)) = some c ∧ Mod S c r := by
  have hm := loose_mods hS ht h
  have k1 : k ≠ 1 := fun e => by have := hk.free.1 e; rw [hj] at this; cases this
  unfold LayR at hl
  rw [if_neg k1] at hl
  split at hl
  · rename_i k2
    have hnone := hk.ac k2
    have hun : ∀ r ∈ rs, isUn S f r = false := fun r _ => by unfold isUn; rw [hnone]
    have hrs : rs ≠ [] := fun e => by
      have := h.len
      rw [e] at this
      rcases hn with hn | hn
      · exact hn (List.length_eq_zero_iff.1 this)
      · exact hn hnone
    exact flatout_mod hS hj ht hm hun hrs hl
  · obtain ⟨ts', h1, h2, h3⟩ := drop_units hS hj ht hm
    rw [h3]
    have hun : ∀ r ∈ rs.filter (fun r => !isUn S f r), isUn S f r = false := fun r hr => by simpa using (List.mem_filter.1 hr).2
    rcases hl with ⟨e, rfl⟩ | ⟨e, hl⟩
    · rw [e] at h1
      have : ts' = [] := List.length_eq_zero_iff.1 h1.len
      subst this
      have hsome : ∃ v, S.unit f = some v := by
        cases hv : S.unit f with
        | some v => exact ⟨v, rfl⟩
        | none =>
          exfalso
          rcases hn with hn | hn
          · have hl2 := h.len
            match ts, rs, hn, hl2 with
            | t :: ts, r :: rs, _, _ =>
              have : r ∈ (r :: rs).filter (fun r => !isUn S f r) := List.mem_filter.2 ⟨by simp, by unfold isUn; rw [hv]; rfl⟩
              rw [e] at this
              cases this
          · exact hn hv
      obtain ⟨v, hv⟩ := hsome
      have hvu := hk.unit v hv
      subst hvu
      refine ⟨constT v, by simp [joinL, hv], rfl, ?_⟩
      have : jn S (constT v) = false := by unfold jn constT; simp [hS.free f v hv]
      rw [this]
      simp
    · exact flatout_mod hS hj h2 h1 hun e hl
theorem lay_loose {S : Sg} {ar : Int → Nat} {k u : Int} {x : ByteArray × Int} {F : Fo} (hk : KindOk S k x.2 u) (hx : noName x.1 = true) (hF : lenF F ≠ 0) {rs : List Tn} {r : Tn} (h : All2 (LooseR S ar) (kidsL F) rs) (hl : LayR S k x.2 u rs r) : LooseR S ar (x, F) r := by
  refine ⟨?_, fun hS hR => ?_⟩
  · have h1 := lay_size hl
    have h2 := loose_sizes h
    rw [← nodes_sizes] at h2
    unfold sizeT at *
    show nodesF r.2 + 1 ≤ nodesF F + 1
    omega
  · have ht : ∀ t ∈ kidsL F, RightT S ar t := right_kids.1 hR.2
    have hc : canonT S (x, F) = canon1 S x ((kidsL F).map (canonT S)) := by unfold canonT; rw [canonL_map]; rfl
    cases hj : S.joins x.2 with
    | false =>
      have k1 := hk.free.2 hj
      unfold LayR at hl
      rw [if_pos k1] at hl
      obtain ⟨rs', h1, rfl⟩ := hl
      have e := mods_set hS ht (loose_mods hS ht h) h1
      have hce : canonT S (x, F) = ((noB, x.2), mkF rs') := by
        rw [hc, e]
        unfold canon1
        rw [if_neg (by rw [hx]; simp), hj]
        simp
      rw [hce]
      refine ⟨rfl, ?_⟩
      have : jn S ((noB, x.2), mkF rs') = false := by unfold jn; simp [hj]
      rw [this]
      simp
    | true =>
      have hne : kidsL F ≠ [] := fun e => hF (by rw [← kids_len, e]; rfl)
      obtain ⟨c, h1, h2⟩ := lay_join hS hk hj ht h hl (.inl hne)
      have h3 := canon1_join (S := S) (ar := ar) (x := x) (cs := (kidsL F).map (canonT S)) hx hj (fun c hc => by
        obtain ⟨t, h4, rfl⟩ := List.mem_map.1 hc
        exact canonT_can hS (ht t h4)) (by simpa using hne)
      rw [List.flatMap_map] at h3
      have h4 : some c = some (canon1 S x ((kidsL F).map (canonT S))) := h1.symm.trans h3
      rw [hc, ← Option.some.inj h4]
      exact h2

/-! ### the kinds of a signature -/
def kindK (l : List Sym) (f : Int) : Int := match symAt l f with | some x => if 1 ≤ x.kind ∧ x.kind ≤ 3 then x.kind else 1 | none => 1
theorem kindK_range (l : List Sym) (f : Int) : 1 ≤ kindK l f ∧ kindK l f ≤ 3 := by
  unfold kindK
  split
  · split <;> omega
  · omega
theorem kindK_ok (l : List Sym) (f : Int) : KindOk (sgOf l) (kindK l f) f (unitI l f) := by
  refine ⟨?_, ?_, ?_⟩
  · show _ ↔ joinsAt l f = false
    unfold kindK joinsAt
    cases symAt l f with
    | none => simp
    | some x =>
      dsimp only
      rw [Bool.or_eq_false_iff, decide_eq_false_iff_not, decide_eq_false_iff_not]
      split <;> omega
  · intro h
    show (unitAt l f).map _ = none
    rw [Option.map_eq_none_iff]
    by_cases hin : 0 ≤ f ∧ f.toNat < l.length
    · obtain ⟨n, rfl⟩ := Int.eq_ofNat_of_zero_le hin.1
      have hn : n < l.length := by simpa using hin.2
      refine unit_not hn ?_
      unfold kindK at h
      rw [symAt_in hn] at h
      dsimp only at h
      intro e
      rw [e] at h
      simp at h
    · exact unit_out hin
  · intro v hv
    have hv : (unitAt l f).map (fun (i : Nat) => (i : Int)) = some v := hv
    unfold unitI
    cases hu : unitAt l f with
    | none => rw [hu] at hv; cases hv
    | some i => rw [hu] at hv; simpa using hv.symm
end Go.Proofs.YtokbgbbkopmngaaGreat
/- What kindAt, headAt, gathers and isUnit of package canon answer. -/
namespace Go.Proofs.YtokbgbbkopmngaaGreat
open Go.RowKit Go.Deep

set_option maxRecDepth 100000 in
set_option maxHeartbeats 400000 in
theorem kindAt_any (a : Option Addr) (n cap : Nat) (l : List Sym) (z : Int) (w : World) (h : SigAt w a n l) :
    Calls Tryz.prog 65 #[.slice a n cap, .int .i64 z] w fun e w' => e = .returned (.int .i64 (kindK l z)) ∧ w' = w := by
  have HS : Hid (SigAt w a n l) := h
  have hm := h.small
  unfold maxLen at hm
  clear h
  by_cases h0 : z < 0
  · have hu : Hid (kindK l z = 1) := by show _ = _; unfold kindK; rw [symAt_out (by omega)]
    go_enter Tryz.func65, Tryz.ntmps65
    go_wp2
    go_ret
    exact ⟨by rw [hu.out]; rfl, rfl⟩
  · obtain ⟨k, rfl⟩ := Int.eq_ofNat_of_zero_le (by omega : 0 ≤ z)
    by_cases h1 : (n : Int) ≤ k
    · have hu : Hid (kindK l k = 1) := by show _ = _; unfold kindK; rw [symAt_out (by have := HS.out.len; omega)]
      go_enter Tryz.func65, Tryz.ntmps65
      go_wp2
      go_ret
      exact ⟨by rw [hu.out]; rfl, rfl⟩
    · have hlk : k < l.length := by have := HS.out.len; omega
      obtain ⟨b, off, rfl, hw⟩ := HS.out.cells k hlk
      have c1 := hw.kind
      clear hw
      have hk : Hid (kindK l k = if 1 ≤ l[k].kind ∧ l[k].kind ≤ 3 then l[k].kind else 1) := by show _ = _; unfold kindK; rw [symAt_in hlk]
      by_cases h2 : l[k].kind < 1
      · go_enter Tryz.func65, Tryz.ntmps65
        go_wp2
        go_ret
        exact ⟨by rw [hk.out, if_neg (by omega)]; rfl, rfl⟩
      · by_cases h3 : 3 < l[k].kind
        · go_enter Tryz.func65, Tryz.ntmps65
          go_wp2
          go_ret
          exact ⟨by rw [hk.out, if_neg (by omega)]; rfl, rfl⟩
        · go_enter Tryz.func65, Tryz.ntmps65
          go_wp2
          go_ret
          exact ⟨by rw [hk.out, if_pos (by omega)]; rfl, rfl⟩

/-- A symbol with all that its arguments' laying hangs on. -/
def headV (a : Option Addr) (n cap : Nat) (l : List Sym) (f : Int) : Array Value := #[.slice a n cap, .int .i64 f, .int .i64 (kindK l f), .int .i64 (unitI l f), .bool (unitOk l f)]
/-- A struct's cells in a block of their own. -/
def BoxK (W : World) (B : Nat) (T : TypeId) (cs : Array Value) : Prop := W.heap[B]? = some (.cells cs T (0, 0))
theorem BoxK.new (W : World) (T : TypeId) (cs : Array Value) : BoxK (W.alloc (.cells cs T)) W.heap.size T cs := World.alloc_heap_new W _
theorem BoxK.c {W : World} {B : Nat} {T : TypeId} {cs : Array Value} (h : BoxK W B T cs) (k : Nat) : W.cell? ⟨B, k, none⟩ = cs[k]? := by simp [World.cell?, show W.heap[B]? = _ from h]
theorem BoxK.f {W : World} {B : Nat} {T : TypeId} {cs : Array Value} (h : BoxK W B T cs) (k : Nat) : W.frozen? ⟨B, k, none⟩ = false := by simp [World.frozen?, show W.heap[B]? = _ from h]
theorem BoxK.lt {W : World} {B : Nat} {T : TypeId} {cs : Array Value} (h : BoxK W B T cs) : B < W.heap.size := (Array.getElem?_eq_some_iff.1 h).1
theorem BoxK.below {W W' : World} {B : Nat} {T : TypeId} {cs : Array Value} (h : BoxK W B T cs) (hb : Below W.heap.size W W') : BoxK W' B T cs := (hb.block B h.lt).trans h
theorem BoxK.set {W : World} {B : Nat} {T : TypeId} {cs : Array Value} (h : BoxK W B T cs) (k : Nat) (u : Value) : BoxK (W.setCell ⟨B, k, none⟩ u) B T (cs.setIfInBounds k u) := block_set h u
theorem BoxK.all5 {W : World} {B : Nat} {T : TypeId} {a b c d e : Value} (h : BoxK W B T #[a, b, c, d, e]) (u0 u1 u2 u3 u4 : Value) : BoxK (((((W.setCell ⟨B, 0, none⟩ u0).setCell ⟨B, 1, none⟩ u1).setCell ⟨B, 2, none⟩ u2).setCell ⟨B, 3, none⟩ u3).setCell ⟨B, 4, none⟩ u4) B T #[u0, u1, u2, u3, u4] := ((((h.set 0 u0).set 1 u1).set 2 u2).set 3 u3).set 4 u4
theorem Tryz.size99 : (Tryz.prog.info? 99).map (·.size) = some 5 := by kernel_rfl
set_option maxRecDepth 100000 in
set_option maxHeartbeats 400000 in
theorem headAt_any (a : Option Addr) (n cap : Nat) (l : List Sym) (z : Int) (w : World) (h : SigAt w a n l) :
    Calls Tryz.prog 67 #[.slice a n cap, .int .i64 z] w fun e w' => e = .returned (.agg (headV a n cap l z)) ∧ Below w.heap.size w w' := by
  have HS : Hid (SigAt w a n l) := h
  clear h
  have HU : Hid (∀ W, Below w.heap.size w W → Calls Tryz.prog 55 #[.slice a n cap, .int .i64 z] W fun e w' => UnitRet l z e ∧ Below W.heap.size W w') := fun W hW => sunit_any a n cap l z W (HS.out.below hW)
  have HK : Hid (∀ W, Below w.heap.size w W → Calls Tryz.prog 65 #[.slice a n cap, .int .i64 z] W fun e w' => e = .returned (.int .i64 (kindK l z)) ∧ w' = W) := fun W hW => kindAt_any a n cap l z W (HS.out.below hW)
  go_enter Tryz.func67, Tryz.ntmps67
  go_wp2_with (first
    | (go_at_call 55; refine (HU.out _ ((Below.refl _ w).alloc (Nat.le_refl _) _)).mono ?_; rintro e w1 ⟨he, hb1⟩; have HB1 : Hid (Below w.heap.size w w1) := ((Below.refl _ w).alloc (Nat.le_refl _) _).trans (hb1.mono (by simp)); have HX : BoxK w1 w.heap.size 99 #[.slice none 0 0, .int .i64 0, .int .i64 0, .int .i64 0, .bool false] := (BoxK.new w 99 _).below hb1; have k0 := HX.c 0; have k1 := HX.c 1; have k2 := HX.c 2; have k3 := HX.c 3; have k4 := HX.c 4; have f0 := HX.f 0; have f1 := HX.f 1; have f2 := HX.f 2; have f3 := HX.f 3; have f4 := HX.f 4; have HXX : Hid (BoxK w1 w.heap.size 99 #[.slice none 0 0, .int .i64 0, .int .i64 0, .int .i64 0, .bool false]) := HX; unfold UnitRet at he; subst he; clear hb1 HX)
    | (go_at_call 65; refine (HK.out _ HB1.out).mono ?_; rintro e w2 ⟨rfl, rfl⟩))
  refine bodyPost_ret (results_cell_row rfl _ _ w.heap.size 99 (headV a n cap l z) (0, 0) _ rfl (HXX.out.all5 _ _ _ _ _) Tryz.underlying99 rfl Tryz.size99) rfl ?_
  refine ⟨rfl, ?_⟩
  exact ((((HB1.out.setCell (p := ⟨w.heap.size, 0, none⟩) (Nat.le_refl _) _).setCell (p := ⟨w.heap.size, 1, none⟩) (Nat.le_refl _) _).setCell (p := ⟨w.heap.size, 2, none⟩) (Nat.le_refl _) _).setCell (p := ⟨w.heap.size, 3, none⟩) (Nat.le_refl _) _).setCell (p := ⟨w.heap.size, 4, none⟩) (Nat.le_refl _) _
set_option maxRecDepth 100000 in
set_option maxHeartbeats 400000 in
theorem gathers_anyK (hv : Option Addr) (n cap : Nat) (f k u : Int) (hu : Bool) (t : Tn) (a : Option Addr) (c : Nat) (w : World) :
    Calls Tryz.prog 110 #[.agg #[.slice hv n cap, .int .i64 f, .int .i64 k, .int .i64 u, .bool hu], .agg #[.string t.1.1, .int .i64 t.1.2, .slice a (lenF t.2) c]] w fun e w' => e = .returned (.bool (!decide (k = 1) && headed f t)) ∧ Below w.heap.size w w' := by
  obtain ⟨⟨nm, s⟩, F⟩ := t
  have hr : Hid (headed f ((nm, s), F) = (nm.toList.isEmpty && s == f)) := rfl
  by_cases h1 : k = 1
  · go_enter Tryz.func110, Tryz.ntmps110
    go_wp2
    go_ret
    exact ⟨by simp [h1], ((Below.refl _ w).alloc (Nat.le_refl _) _).alloc (by simp) _⟩
  · cases h2 : nm.toList.isEmpty
    · go_enter Tryz.func110, Tryz.ntmps110
      go_wp2
      go_ret
      exact ⟨by rw [hr.out, h2]; simp, ((Below.refl _ w).alloc (Nat.le_refl _) _).alloc (by simp) _⟩
    · go_enter Tryz.func110, Tryz.ntmps110
      go_wp2
      go_ret
      exact ⟨by rw [hr.out, h2]; simp [h1], ((Below.refl _ w).alloc (Nat.le_refl _) _).alloc (by simp) _⟩
/-- A fixed term, which lies nowhere. -/
theorem tm_const (w : World) (u : Int) : TmAt w (noB, u) none 0 .nil := ⟨⟨by show noB.size ≤ maxLen; decide, Nat.le_refl _, Nat.zero_le _, by simp [lenF]⟩, .inl rfl⟩
set_option maxRecDepth 100000 in
set_option maxHeartbeats 400000 in
theorem same_anyK (x y : Tn) (a b : Option Addr) (c d : Nat) (w : World) (hS : TmAt w x.1 a c x.2) (hT : TmAt w y.1 b d y.2) :
    Calls Tryz.prog 27 #[.agg #[.string x.1.1, .int .i64 x.1.2, .slice a (lenF x.2) c], .agg #[.string y.1.1, .int .i64 y.1.2, .slice b (lenF y.2) d]] w fun e w' => e = .returned (.bool (cmpN x y == 0)) ∧ Below w.heap.size w w' := by
  obtain ⟨⟨xn, xs⟩, l⟩ := x
  obtain ⟨⟨yn, ys⟩, m⟩ := y
  obtain ⟨cv, hcv⟩ : ∃ cv, cmpN ((xn, xs), l) ((yn, ys), m) = cv := ⟨_, rfl⟩
  have HB0 : Hid (Below w.heap.size w ((w.alloc (.cells #[.string xn, .int .i64 xs, .slice a (lenF l) c] 26)).alloc (.cells #[.string yn, .int .i64 ys, .slice b (lenF m) d] 26))) := ((Below.refl _ w).alloc (Nat.le_refl _) _).alloc (by simp) _
  have HC : Hid (∀ V, Below w.heap.size w V → Calls Tryz.prog 41 #[.agg #[.string xn, .int .i64 xs, .slice a (lenF l) c], .agg #[.string yn, .int .i64 ys, .slice b (lenF m) d]] V fun e w' => e = .returned (.int .i64 cv) ∧ Below V.heap.size V w') := fun V hV => by
    have := compare_all _ (xn, xs) (yn, ys) a b c d l m V (Nat.le_refl _) (hS.below hV) (hT.below hV)
    rw [show cmp1 (xn, xs) (yn, ys) (lenF l) (lenF m) (cmpF l m) = cv from hcv] at this
    exact this.mono fun _ _ h => ⟨h.1, h.2.below⟩
  rw [hcv]
  clear hcv hS hT
  go_enter Tryz.func27, Tryz.ntmps27
  go_wp2_with (go_at_call 41; refine (HC.out _ HB0.out).mono ?_; rintro e w1 ⟨rfl, hb1⟩; have HB1 : Hid (Below w.heap.size w w1) := HB0.out.trans (hb1.mono HB0.out.size); clear hb1)
  go_ret
  exact ⟨rfl, HB1.out⟩
theorem cmp_constK (t : Tn) (u : Int) : (cmpN t (constT u) == 0) = isConst t u := by
  obtain ⟨⟨nm, s⟩, F⟩ := t
  unfold cmpN isConst constT cmp1
  cases h1 : noName nm with
  | false => simp [noName_noB]
  | true =>
    simp only [noName_noB]
    by_cases h2 : s = u
    · subst h2
      by_cases h3 : lenF F = 0
      · rw [len_nil h3]; simp [lenF, cmpF]
      · have h4 : (Lib.compareInt (lenF F) 0 == 0) = false := by
          have : ¬ Lib.compareInt (lenF F) 0 = 0 := by unfold Lib.compareInt; split <;> omega
          simpa using this
        have h5 : (lenF F == 0) = false := by simpa using h3
        simp [lenF, h3, h4, h5]
    · have h4 : (Lib.compareInt s u == 0) = false := by
        have : ¬ Lib.compareInt s u = 0 := by unfold Lib.compareInt; split <;> omega
        simpa using this
      have h5 : (s == u) = false := by simpa using h2
      simp [h2, h4, h5]
def isUnB (l : List Sym) (f : Int) (t : Tn) : Bool := unitOk l f && isConst t (unitI l f)
theorem isUnB_eq (l : List Sym) (f : Int) (t : Tn) : isUnB l f t = isUn (sgOf l) f t := by
  unfold isUnB isUn unitOk unitI
  show _ = (match (unitAt l f).map (fun (i : Nat) => (i : Int)) with | some u => isConst t u | none => false)
  cases unitAt l f <;> simp
set_option maxRecDepth 100000 in
set_option maxHeartbeats 400000 in
theorem isUnit_any (hv : Option Addr) (n cap : Nat) (f k : Int) (l : List Sym) (t : Tn) (a : Option Addr) (c : Nat) (w : World) (hT : TmAt w t.1 a c t.2) :
    Calls Tryz.prog 113 #[.agg #[.slice hv n cap, .int .i64 f, .int .i64 k, .int .i64 (unitI l f), .bool (unitOk l f)], .agg #[.string t.1.1, .int .i64 t.1.2, .slice a (lenF t.2) c]] w fun e w' => e = .returned (.bool (isUnB l f t)) ∧ Below w.heap.size w w' := by
  obtain ⟨⟨nm, s⟩, F⟩ := t
  obtain ⟨u, hu⟩ : ∃ u, unitI l f = u := ⟨_, rfl⟩
  have hr : Hid (isUnB l f ((nm, s), F) = (unitOk l f && (cmpN ((nm, s), F) (constT u) == 0))) := by show _ = _; rw [cmp_constK, ← hu]; rfl
  obtain ⟨r, hrr⟩ : ∃ r, (cmpN ((nm, s), F) (constT u) == 0) = r := ⟨_, rfl⟩
  have HC : Hid (∀ V, Below w.heap.size w V → Calls Tryz.prog 27 #[.agg #[.string nm, .int .i64 s, .slice a (lenF F) c], .agg #[.string ⟨#[]⟩, .int .i64 u, .slice none 0 0]] V fun e w' => e = .returned (.bool r) ∧ Below V.heap.size V w') := fun V hV => by
    have := same_anyK ((nm, s), F) (constT u) a none c 0 V (hT.below hV) (tm_const V u)
    rw [hrr] at this
    exact this
  rw [hrr] at hr
  rw [hu]
  clear hrr hu hT
  have HB0 : Hid (Below w.heap.size w ((w.alloc (.cells #[.slice hv n cap, .int .i64 f, .int .i64 k, .int .i64 u, .bool (unitOk l f)] 99)).alloc (.cells #[.string nm, .int .i64 s, .slice a (lenF F) c] 26))) := ((Below.refl _ w).alloc (Nat.le_refl _) _).alloc (by simp) _
  cases ho : unitOk l f
  · rw [ho] at hr HB0
    go_enter Tryz.func113, Tryz.ntmps113
    go_wp2
    go_ret
    exact ⟨by rw [hr.out]; rfl, HB0.out⟩
  · rw [ho] at hr HB0
    go_enter Tryz.func113, Tryz.ntmps113
    go_wp2_with (go_at_call 27; refine (HC.out _ HB0.out).mono ?_; rintro e w1 ⟨rfl, hb1⟩; have HB1 : Hid (Below w.heap.size w w1) := HB0.out.trans (hb1.mono HB0.out.size); clear hb1)
    go_ret
    exact ⟨by rw [hr.out]; rfl, HB1.out⟩
end Go.Proofs.YtokbgbbkopmngaaGreat
/- What settle of package canon makes of a loose form. -/
namespace Go.Proofs.YtokbgbbkopmngaaGreat
open Go.RowKit Go.Deep

theorem LoosE.parts {w : World} {A : Bl} {k : Kv} (h : LoosE w A k) (hn : noName k.x.1 = true) : (k.a = none ∧ k.c = 0 ∧ lenF k.l = 0) ∨ ∃ (g : Nat) (cur : Array Value) (ks : List Kv), k.a = some ⟨g, 0, none⟩ ∧ A g ∧ w.heap[g]? = some (Obj.cells cur 26 (0, 0)) ∧ cur.size = k.c * 3 ∧ ks.map Kv.tn = kidsL k.l ∧
    (∀ (j : Nat) (u : Value), (kvCells ks)[j]? = some u → cur[j]? = some u) ∧ GL SepE w ks (fun q => A q ∧ q ≠ g) := by
  obtain ⟨hs, hr⟩ := h
  rcases hr hn with h1 | ⟨g, cur, h1, h2, h3, h4⟩
  · exact .inl h1
  · refine .inr ?_
    rcases hs.list with e | ⟨g', cur', e1, e2, e3, e4⟩
    · exact ⟨g, cur, [], h1, h2, h3, h4, by rw [e]; rfl, fun j u hu => by simp [kvCells] at hu, trivial⟩
    · rw [h1] at e1
      cases e1
      obtain ⟨ks, k1, k2, k3⟩ := sepKids_list e4
      refine ⟨g, cur, ks, h1, h2, h3, h4, k1, fun j u hu => ?_, k3⟩
      have := k2 j u hu
      rwa [Nat.zero_add, cell_of_row w g j cur 26 (0, 0) h3] at this
theorem LoosE.make {w : World} {A : Bl} {x : ByteArray × Int} {g c : Nat} {cur : Array Value} {ks : List Kv} (hx : x.1.size ≤ maxLen) (hg : A g) (hh : w.heap[g]? = some (Obj.cells cur 26 (0, 0))) (hc : cur.size = c * 3) (hcap : c ≤ maxLen) (hlen : ks.length ≤ c) (hfew : ks.length * 48 ≤ 140737488351232)
    (hcells : ∀ (j : Nat) (u : Value), (kvCells ks)[j]? = some u → cur[j]? = some u) (hks : GL SepE w ks (fun q => A q ∧ q ≠ g)) : LoosE w A ⟨x, mkF (ks.map Kv.tn), some ⟨g, 0, none⟩, c⟩ := by
  have hlm : lenF (mkF (ks.map Kv.tn)) = ks.length := by rw [len_mk, List.length_map]
  refine ⟨⟨⟨hx, by rw [hlm]; exact hlen, hcap, by rw [hlm]; exact hfew⟩, .inr ⟨g, cur, rfl, hg, hh, ?_⟩⟩, fun _ => .inr ⟨g, cur, rfl, hg, hh, hc⟩⟩
  refine sepKids_of _ ks _ 0 (by rw [kids_mk]; rfl) (fun j u hu => ?_) (gl_sepL.1 hks)
  rw [Nat.zero_add, cell_of_row w g j cur 26 (0, 0) hh]
  exact hcells j u hu

theorem sortNil_any (cap : Nat) (w : World) : Calls Tryz.prog 66 #[.slice none 0 cap, .func (.func 41) #[] #[]] w fun e w' => e = .returned (.tuple #[]) ∧ w' = w := AnyF.slices_SortFunc_none Tryz.sortT none cap _ w

set_option maxRecDepth 100000 in
set_option maxHeartbeats 1000000 in
theorem settle_anyK (S : Option Addr) (n cap : Nat) (l : List Sym) (k : Kv) (A : Bl) (w : World) (hS : SigAt w S n l) (hE : LoosE w A k) :
    Calls Tryz.prog 42 #[.slice S n cap, .agg #[.string k.x.1, .int .i64 k.x.2, .slice k.a (lenF k.l) k.c]] w fun e w' => ∃ F, e = .returned (.agg #[.string k.x.1, .int .i64 k.x.2, .slice k.a (lenF F) k.c]) ∧ lenF F = lenF k.l ∧ SetR (sgOf l) k.tn (k.x, F) ∧ LoosE w' A ⟨k.x, F, k.a, k.c⟩ ∧ Turned A w w' := by
  obtain ⟨⟨nm, s⟩, F, a, c⟩ := k
  have HE : Hid (LoosE w A ⟨(nm, s), F, a, c⟩) := hE
  have HK : Hid (∀ W, Below w.heap.size w W → Calls Tryz.prog 65 #[.slice S n cap, .int .i64 s] W fun e w' => e = .returned (.int .i64 (kindK l s)) ∧ w' = W) := fun W hW => kindAt_any S n cap l s W (hS.below hW)
  have hb2 : Below w.heap.size w ((w.alloc (.cells #[.string nm, .int .i64 s, .slice a (lenF F) c] 26)).alloc (.cells #[.string nm, .int .i64 s, .slice a (lenF F) c] 26)) := ((Below.refl _ w).alloc (Nat.le_refl _) _).alloc (by simp) _
  have HB2 : Hid (Below w.heap.size w ((w.alloc (.cells #[.string nm, .int .i64 s, .slice a (lenF F) c] 26)).alloc (.cells #[.string nm, .int .i64 s, .slice a (lenF F) c] 26))) := hb2
  have HLE : Hid (LoosE ((w.alloc (.cells #[.string nm, .int .i64 s, .slice a (lenF F) c] 26)).alloc (.cells #[.string nm, .int .i64 s, .slice a (lenF F) c] 26)) A ⟨(nm, s), F, a, c⟩) := loosE.keep (fun q _ hq => hb2.block q hq) hE
  have HX : Hid (XBox ((w.alloc (.cells #[.string nm, .int .i64 s, .slice a (lenF F) c] 26)).alloc (.cells #[.string nm, .int .i64 s, .slice a (lenF F) c] 26)) (w.heap.size + 1) (nm, s) (.slice a (lenF F) c)) := by
    have := World.alloc_heap_new (w.alloc (.cells #[.string nm, .int .i64 s, .slice a (lenF F) c] 26)) (.cells #[.string nm, .int .i64 s, .slice a (lenF F) c] 26)
    rw [World.size_alloc] at this
    exact this
  clear hE hS hb2
  cases hn : nm.toList.isEmpty
  · have hj : Hid (jn (sgOf l) ((nm, s), F) = false) := by show _ = _; unfold jn noName; rw [hn]; rfl
    go_enter Tryz.func42, Tryz.ntmps42
    go_wp2
    refine bodyPost_ret (results_cell_row rfl _ _ (w.heap.size + 1) 26 #[.string nm, .int .i64 s, .slice a (lenF F) c] (0, 0) _ rfl HX.out Tryz.underlying26 rfl Tryz.size26) rfl ?_
    exact ⟨F, rfl, rfl, ⟨rfl, by show if jn (sgOf l) ((nm, s), F) = true then _ else _; rw [hj.out]; simp [Kv.tn]⟩, HLE.out, Turned.of_below HB2.out A⟩
  · have hnn : Hid (noName nm = true) := hn
    cases hk : (kindK l s != 1)
    · have hj : Hid (jn (sgOf l) ((nm, s), F) = false) := by
        show _ = _
        have : (sgOf l).joins s = false := (kindK_ok l s).free.1 (by simpa using hk)
        unfold jn
        rw [this]
        simp
      go_enter Tryz.func42, Tryz.ntmps42
      go_wp2_with (go_at_call 65; refine (HK.out _ (((Below.refl _ w).alloc (Nat.le_refl _) _).alloc (by simp) _)).mono ?_; rintro e w2 ⟨rfl, rfl⟩)
      refine bodyPost_ret (results_cell_row rfl _ _ (w.heap.size + 1) 26 #[.string nm, .int .i64 s, .slice a (lenF F) c] (0, 0) _ rfl HX.out Tryz.underlying26 rfl Tryz.size26) rfl ?_
      exact ⟨F, rfl, rfl, ⟨rfl, by show if jn (sgOf l) ((nm, s), F) = true then _ else _; rw [hj.out]; simp [Kv.tn]⟩, HLE.out, Turned.of_below HB2.out A⟩
    · have hj : Hid (jn (sgOf l) ((nm, s), F) = true) := by
        show _ = _
        have : (sgOf l).joins s = true := by
          cases h : (sgOf l).joins s with
          | true => rfl
          | false => have := (kindK_ok l s).free.2 h; simp [this] at hk
        unfold jn
        rw [this, hnn.out]
        rfl
      have HSZ := HE.out.1.sizes
      have HSZ' : Hid (Sizes nm (lenF F) c) := HSZ
      clear HSZ
      rcases HE.out.parts hnn.out with ⟨ha, hc, hl⟩ | ⟨g, cur, ks, ha, hg, hh, hcs, hks, hcells, hgl⟩
      · have ha : a = none := ha
        have hc : c = 0 := hc
        have hl : lenF F = 0 := hl
        have hF := len_nil hl
        subst ha hc hF
        have HN : Hid (∀ W, Calls Tryz.prog 66 #[.slice none 0 0, .func (.func 41) #[] #[]] W fun e w' => e = .returned (.tuple #[]) ∧ w' = W) := fun W => sortNil_any 0 W
        go_enter Tryz.func42, Tryz.ntmps42
        go_wp2_with (first | (go_at_call 65; refine (HK.out _ (((Below.refl _ w).alloc (Nat.le_refl _) _).alloc (by simp) _)).mono ?_; rintro e w2 ⟨rfl, rfl⟩) | (go_at_call 66; refine (HN.out _).mono ?_; rintro e w3 ⟨rfl, rfl⟩))
        refine bodyPost_ret (results_cell_row rfl _ _ (w.heap.size + 1) 26 #[.string nm, .int .i64 s, .slice none 0 0] (0, 0) _ rfl HX.out Tryz.underlying26 rfl Tryz.size26) rfl ?_
        exact ⟨.nil, rfl, rfl, ⟨rfl, by show if jn (sgOf l) ((nm, s), .nil) = true then _ else _; rw [hj.out]; exact ⟨[], rfl, List.Perm.refl _, List.Pairwise.nil⟩⟩, HLE.out, Turned.of_below HB2.out A⟩
      · have ha : a = some ⟨g, 0, none⟩ := ha
        subst ha
        have hkl : ks.length = lenF F := by have := congrArg List.length hks; rwa [List.length_map, kids_len] at this
        have hglt : g < w.heap.size := (Array.getElem?_eq_some_iff.1 hh).1
        obtain ⟨W0, hW0⟩ : ∃ W0, (w.alloc (.cells #[.string nm, .int .i64 s, .slice (some ⟨g, 0, none⟩) (lenF F) c] 26)).alloc (.cells #[.string ⟨#[]⟩, .int .i64 0, .slice none 0 0] 26) = W0 := ⟨_, rfl⟩
        have hb0 : Below w.heap.size w W0 := by rw [← hW0]; exact ((Below.refl _ w).alloc (Nat.le_refl _) _).alloc (by simp) _
        have b1 : XBox W0 w.heap.size (nm, s) (.slice (some ⟨g, 0, none⟩) (lenF F) c) := by rw [← hW0]; exact (Below.heap_alloc _ _ _ (by simp)).trans (World.alloc_heap_new w _)
        have b2 : XBox W0 (w.heap.size + 1) (⟨#[]⟩, 0) (.slice none 0 0) := by
          have := World.alloc_heap_new (w.alloc (.cells #[.string nm, .int .i64 s, .slice (some ⟨g, 0, none⟩) (lenF F) c] 26)) (.cells #[.string ⟨#[]⟩, .int .i64 0, .slice none 0 0] 26)
          rw [World.size_alloc] at this
          rw [← hW0]; exact this
        have hsz : W0.heap.size = w.heap.size + 2 := by rw [← hW0]; simp
        have HSort : Hid (Calls Tryz.prog 66 #[.slice (some ⟨g, 0, none⟩) (lenF F) c, .func (.func 41) #[] #[]] W0 fun e w' => e = .returned (.tuple #[]) ∧ ∃ (ms : List Kv) (cur' : Array Value), List.Perm ms ks ∧ Srt (ms.map Kv.tn) ∧ w'.heap[g]? = some (Obj.cells cur' 26 (0, 0)) ∧ cur'.size = cur.size ∧
            (∀ (j : Nat) (u : Value), (kvCells ms)[j]? = some u → cur'[j]? = some u) ∧ Turned (fun q => q = g) W0 w') := by
          have := sort_terms W0 g c cur ks (fun q => A q ∧ q ≠ g) ((hb0.block g hglt).trans hh) hcells (hgl.keep sepE (fun q _ hq => hb0.block q hq)) (fun h => h.2 rfl) (by have := HSZ'.out.len; have := HSZ'.out.few; omega)
          rwa [hkl] at this
        have HKS : Hid (ks.map Kv.tn = kidsL F) := hks
        have HGL : Hid (GL SepE W0 ks (fun q => (A q ∧ q ≠ g) ∧ q < w.heap.size)) := (hgl.within sepE).keep sepE (fun q _ hq => hb0.block q hq)
        have HG : Hid (A g) := hg
        have HCS : Hid (cur.size = c * 3) := hcs
        have HB0 : Hid (Below w.heap.size w W0) := hb0
        have HW : Hid (W0.heap.size = w.heap.size + 2) := hsz
        have HKL : Hid (ks.length = lenF F) := hkl
        have HGLT : Hid (g < w.heap.size) := hglt
        have z0 := b1.c0; have z1 := b1.c1; have z2 := b1.c2
        have B1 : Hid (XBox W0 w.heap.size (nm, s) (.slice (some ⟨g, 0, none⟩) (lenF F) c)) := b1
        have B2 : Hid (XBox W0 (w.heap.size + 1) (⟨#[]⟩, 0) (.slice none 0 0)) := b2
        clear hks hgl hg hcs hb0 hsz hkl b1 b2 hcells hh HX HLE HB2 hglt
        go_enter Tryz.func42, Tryz.ntmps42
        go_wp2_with (first
          | (go_at_call 65; refine (HK.out _ HB0.out).mono ?_; rintro e w2 ⟨rfl, rfl⟩)
          | (go_at_call 66; clear hW0 z0 z1 z2; refine HSort.out.mono ?_; rintro e w3 ⟨rfl, ms, cur', hp, hsr, hh3, hcs3, hcells3, ht3⟩
             have X1 : XBox w3 w.heap.size (nm, s) (.slice (some ⟨g, 0, none⟩) (lenF F) c) := (ht3.block _ B1.out.lt (by have := HGLT.out; omega)).trans B1.out
             have X2 : XBox w3 (w.heap.size + 1) (⟨#[]⟩, 0) (.slice none 0 0) := (ht3.block _ B2.out.lt (by have := HGLT.out; omega)).trans B2.out
             have y0 := X1.c0; have y1 := X1.c1; have y2 := X1.c2
             have r0 := X2.c0; have r1 := X2.c1; have r2 := X2.c2
             have g0 := X2.f (k := 0); have g1 := X2.f (k := 1); have g2 := X2.f (k := 2)
             have HX2 : Hid (XBox w3 (w.heap.size + 1) (⟨#[]⟩, 0) (.slice none 0 0)) := X2
             have HP : Hid (List.Perm ms ks) := hp
             have HSR : Hid (Srt (ms.map Kv.tn)) := hsr
             have HH3 : Hid (w3.heap[g]? = some (Obj.cells cur' 26 (0, 0))) := hh3
             have HCS3 : Hid (cur'.size = cur.size) := hcs3
             have HCE3 : Hid (∀ (j : Nat) (u : Value), (kvCells ms)[j]? = some u → cur'[j]? = some u) := hcells3
             have HT3 : Hid (Turned (fun q => q = g) _ w3) := ht3
             clear hp hsr hh3 hcs3 hcells3 ht3 X1 X2))
        refine bodyPost_ret (results_cell_row rfl _ _ (w.heap.size + 1) 26 #[.string nm, .int .i64 s, .slice (some ⟨g, 0, none⟩) (lenF F) c] (0, 0) _ rfl (HX2.out.all (x := (nm, s)) _) Tryz.underlying26 rfl Tryz.size26) rfl ?_
        have hml : ms.length = lenF F := HP.out.length_eq.trans HKL.out
        have hlm : lenF (mkF (ms.map Kv.tn)) = lenF F := by rw [len_mk, List.length_map, hml]
        refine ⟨mkF (ms.map Kv.tn), by rw [hlm], hlm, ⟨rfl, ?_⟩, ?_, ?_⟩
        · show if jn (sgOf l) ((nm, s), F) = true then _ else _
          rw [hj.out]
          exact ⟨ms.map Kv.tn, rfl, by show List.Perm (ms.map Kv.tn) (kidsL F); rw [← HKS.out]; exact HP.out.map _, HSR.out⟩
        · have far : ∀ q, q < w.heap.size → (((w3.setCell ⟨w.heap.size + 1, 0, none⟩ (.string nm)).setCell ⟨w.heap.size + 1, 1, none⟩ (.int .i64 s)).setCell ⟨w.heap.size + 1, 2, none⟩ (.slice (some ⟨g, 0, none⟩) (lenF F) c)).heap[q]? = w3.heap[q]? := fun q hq => sets_far (by omega) _ _ _
          have hW := HW.out
          have h3 : GL SepE w3 ms (fun q => (A q ∧ q ≠ g) ∧ q < w.heap.size) := (HGL.out.perm HP.out.symm).keep sepE (fun q hq hlt => HT3.out.block q hlt hq.1.2)
          refine LoosE.make HSZ'.out.name HG.out ((far g HGLT.out).trans HH3.out) (HCS3.out.trans HCS.out) HSZ'.out.cap (by rw [hml]; exact HSZ'.out.len) (by rw [hml]; exact HSZ'.out.few) HCE3.out ?_
          exact (h3.keep sepE (fun q hq hlt => far q hq.2)).mono (fun q hq => hq.1)
        · have hW := HW.out
          have hs3 := HT3.out.size
          have hs0 := HB0.out.size
          refine ⟨HT3.out.os.trans HB0.out.os, HT3.out.tape.trans HB0.out.tape, HT3.out.output.trans HB0.out.output, by simp; omega, fun q hq hna => ?_⟩
          refine (sets_far (by omega) _ _ _).trans ((HT3.out.block q (by omega) (fun e => hna (by rw [e]; exact HG.out))).trans (HB0.out.block q hq))
end Go.Proofs.YtokbgbbkopmngaaGreat
/- What together of package canon makes of two lists. -/
namespace Go.Proofs.YtokbgbbkopmngaaGreat
open Go.RowKit Go.Deep

theorem app_loosE {w w' : World} {A B : Bl} {v v' : Value} {ks ms : List Kv} {x : ByteArray × Int} (hx : x.1.size ≤ maxLen) (hks : GL SepE w ks (fun q => A q ∧ some q ≠ v.ownBlock)) (hv : ∀ g, v.ownBlock = some g → A g) (hms : GL SepE w ms B) (hd : ∀ q, A q → ¬ B q)
    (hown : w'.ownsRow 0 26 3 v' (ks ++ ms).length (kvCells (ks ++ ms))) (hg : w.grownBy w' v.ownBlock) (hat : v'.ownBlock = v.ownBlock ∨ v'.ownBlock = some w.heap.size) (hfew : (ks ++ ms).length * 48 ≤ 140737488351232) :
    ∃ a c, v' = .slice a (ks ++ ms).length c ∧ LoosE w' (fun q => A q ∨ B q ∨ w.heap.size ≤ q) ⟨x, mkF ((ks ++ ms).map Kv.tn), a, c⟩ ∧ Turned A w w' := by
  have h1 := (hms.within sepE).append (fun q hq h => hd q hq.1.1 h.1) (hks.within sepE)
  have h1' : GL SepE w (ks ++ ms) (fun q => (A q ∨ B q) ∧ some q ≠ v.ownBlock ∧ q < w.heap.size) := (GL.append (hms.within sepE) (fun q hq h => hd q hq.1.1 h.1) (hks.within sepE)).mono (fun q hq => by
    rcases hq with hq | hq
    · exact ⟨.inl hq.1.1, hq.1.2, hq.2⟩
    · exact ⟨.inr hq.1, fun e => hd q (hv q e.symm) hq.1, hq.2⟩)
  have h2 : GL SepE w' (ks ++ ms) (fun q => (A q ∨ B q) ∧ some q ≠ v.ownBlock ∧ q < w.heap.size) := h1'.keep sepE (fun q hq hlt => hg.block q hlt hq.2.1)
  obtain ⟨a, c, e1, e2⟩ := loosE_of (A := fun q => A q ∨ B q ∨ w.heap.size ≤ q) hx hown (fun g e => by
    rcases hat with h | h
    · exact .inl (hv g (by rw [← h, e]))
    · rw [h] at e; cases e; exact .inr (.inr (Nat.le_refl _))) (h2.mono (fun q hq => ⟨by rcases hq.1 with h | h; exact .inl h; exact .inr (.inl h), by
      rcases hat with h | h
      · rw [h]; exact hq.2.1
      · rw [h]; intro e; cases e; exact absurd hq.2.2 (Nat.lt_irrefl _)⟩)) hfew
  exact ⟨a, c, e1, e2, hg.os, hg.tape, hg.output, hg.size, fun q hq hn => hg.block q hq (fun e => hn (hv q e.symm))⟩

set_option maxRecDepth 100000 in
set_option maxHeartbeats 1000000 in
theorem together_any (ka kb : Kv) (A B : Bl) (w : World) (hA : LoosE w A ka) (hB : LoosE w B kb) (hna : noName ka.x.1 = true) (hnb : noName kb.x.1 = true) (hd : ∀ q, A q → ¬ B q) (hsm : lenF ka.l + lenF kb.l ≤ 4194304) :
    Calls Tryz.prog 111 #[.slice ka.a (lenF ka.l) ka.c, .slice kb.a (lenF kb.l) kb.c] w fun e w' => ∃ F a c, e = .returned (.slice a (lenF F) c) ∧ List.Perm (kidsL F) (kidsL ka.l ++ kidsL kb.l) ∧ LoosE w' (fun q => (A q ∨ B q) ∨ w.heap.size ≤ q) ⟨ka.x, F, a, c⟩ ∧ Turned (fun q => A q ∨ B q) w w' := by
  obtain ⟨ks, k1, k2, k3, k4⟩ := hA.row hna
  obtain ⟨ms, m1, m2, m3, m4⟩ := hB.row hnb
  obtain ⟨xa, la, aa, ca⟩ := ka
  obtain ⟨xb, lb, ab, cb⟩ := kb
  dsimp only at *
  have hkl : ks.length = lenF la := by have := congrArg List.length k1; rwa [List.length_map, kids_len] at this
  have hml : ms.length = lenF lb := by have := congrArg List.length m1; rwa [List.length_map, kids_len] at this
  have hxs : Hid (xa.1.size ≤ maxLen) := hA.1.sizes.name
  have hca := hA.1.sizes.cap
  have hcb := hB.1.sizes.cap
  have hla := hA.1.sizes.len
  have hlb := hB.1.sizes.len
  have ra := k2 0 (fun q _ => Nat.zero_le q)
  have rb := m2 0 (fun q _ => Nat.zero_le q)
  obtain ⟨a1, c1, e1, _, _, ra2, ra3, _⟩ := row_of_owns ra
  cases e1
  obtain ⟨b1, d1, e2, _, _, rb2, rb3, _⟩ := row_of_owns rb
  cases e2
  have HRA : Hid (w.ownsRow 0 26 3 (.slice aa (lenF la) ca) ks.length (kvCells ks)) := by show World.ownsRow _ _ _ _ _ _ _; rw [hkl]; exact ra
  have HRB : Hid (w.ownsRow 0 26 3 (.slice ab (lenF lb) cb) ms.length (kvCells ms)) := by show World.ownsRow _ _ _ _ _ _ _; rw [hml]; exact rb
  have HRA2 : Hid (RowAt w aa (lenF la) ks) := ra2
  have HRB2 : Hid (RowAt w ab (lenF lb) ms) := rb2
  have HA3 : Hid (aa = none → ca = 0) := fun e => (ra3 e).2
  have HB3 : Hid (ab = none → cb = 0) := fun e => (rb3 e).2
  have HK1 : Hid (ks.map Kv.tn = kidsL la) := k1
  have HM1 : Hid (ms.map Kv.tn = kidsL lb) := m1
  have HK3 : Hid (GL SepE w ks (fun q => A q ∧ some q ≠ (Value.slice aa (lenF la) ca).ownBlock)) := k3
  have HM3 : Hid (GL SepE w ms (fun q => B q ∧ some q ≠ (Value.slice ab (lenF lb) cb).ownBlock)) := m3
  have HK4 : Hid (∀ g, (Value.slice aa (lenF la) ca).ownBlock = some g → A g) := k4
  have HM4 : Hid (∀ g, (Value.slice ab (lenF lb) cb).ownBlock = some g → B g) := m4
  have HKL : Hid (ks.length = lenF la) := hkl
  have HML : Hid (ms.length = lenF lb) := hml
  clear hA hB k1 k2 k3 k4 m1 m2 m3 m4 ra rb ra2 ra3 rb2 rb3 hkl hml
  by_cases hlt : lenF la < lenF lb
  · go_enter Tryz.func111, Tryz.ntmps111
    go_wp2_with (at_builtin; refine wpList_append_all rfl _ _ rfl 0 (.slice ab (lenF lb) cb) ms rfl HRB.out aa (lenF la) ca ks rfl HRA2.out HA3.out (by have := HML.out; omega) (Nat.zero_le _) ?_; intro v' w' hown hgrow hat; obtain ⟨a', c', e', hL, hT⟩ := app_loosE (x := xa) hxs.out HM3.out HM4.out (HK3.out.mono (fun q hq => hq.1)) (fun q hq h => hd q h hq) hown hgrow hat (by rw [List.length_append, HML.out, HKL.out]; omega); clear hown hgrow hat)
    go_ret
    refine ⟨mkF ((ms ++ ks).map Kv.tn), a', c', by rw [len_mk, List.length_map, List.length_append]; rfl, ?_, loosE.mono (fun q hq => ?_) hL, hT.mono (fun q _ hq => .inr hq)⟩
    · rw [kids_mk, List.map_append, HM1.out, HK1.out]
      exact List.perm_append_comm
    · rcases hq with h | h | h
      · exact .inl (.inr h)
      · exact .inl (.inl h)
      · exact .inr h
  · go_enter Tryz.func111, Tryz.ntmps111
    go_wp2_with (at_builtin; refine wpList_append_all rfl _ _ rfl 0 (.slice aa (lenF la) ca) ks rfl HRA.out ab (lenF lb) cb ms rfl HRB2.out HB3.out (by have := HKL.out; omega) (Nat.zero_le _) ?_; intro v' w' hown hgrow hat; obtain ⟨a', c', e', hL, hT⟩ := app_loosE (x := xa) hxs.out HK3.out HK4.out (HM3.out.mono (fun q hq => hq.1)) (fun q hq h => hd q hq h) hown hgrow hat (by rw [List.length_append, HML.out, HKL.out]; omega); clear hown hgrow hat)
    go_ret
    refine ⟨mkF ((ks ++ ms).map Kv.tn), a', c', by rw [len_mk, List.length_map, List.length_append]; rfl, ?_, loosE.mono (fun q hq => ?_) hL, hT.mono (fun q _ hq => .inl hq)⟩
    · rw [kids_mk, List.map_append, HM1.out, HK1.out]
    · rcases hq with h | h | h
      · exact .inl (.inl h)
      · exact .inl (.inr h)
      · exact .inr h
end Go.Proofs.YtokbgbbkopmngaaGreat
/- What flatten of package canon makes of loose forms. -/
namespace Go.Proofs.YtokbgbbkopmngaaGreat
open Go.RowKit Go.Deep

theorem hidK {p : Prop} (h : p) : Hid p := h
/-- A signature that stays as long as the blocks below B do. -/
def SigLow (B : Nat) (w : World) (S : Option Addr) (n : Nat) (l : List Sym) : Prop := ∀ W, Below B w W → SigAt W S n l
theorem SigLow.of {w : World} {S : Option Addr} {n : Nat} {l : List Sym} (h : SigAt w S n l) : SigLow w.heap.size w S n l := fun _ hW => h.below hW
theorem SigLow.at_ {B : Nat} {w : World} {S : Option Addr} {n : Nat} {l : List Sym} (h : SigLow B w S n l) : SigAt w S n l := h w (Below.refl _ _)
theorem SigLow.below {B : Nat} {w w' : World} {S : Option Addr} {n : Nat} {l : List Sym} (h : SigLow B w S n l) (hb : Below B w w') : SigLow B w' S n l := fun W hW => h W (hb.trans hW)
/-- A row of terms that stays as long as none but the blocks of A turn. -/
def RowFix (A : Bl) (w : World) (a : Option Addr) (ks : List Kv) : Prop := ∀ W, Turned A w W → RowAt W a ks.length ks

theorem Turned.then {A X : Bl} {a b c : World} (h : Turned A a b) (k : Turned X b c) (hX : ∀ q, q < a.heap.size → X q → A q) : Turned A a c :=
  ⟨k.os.trans h.os, k.tape.trans h.tape, k.output.trans h.output, Nat.le_trans h.size k.size, fun q hq hA => (k.block q (Nat.lt_of_lt_of_le hq h.size) (fun hx => hA (hX q hq hx))).trans (h.block q hq hA)⟩
theorem psizes_len : ∀ l : List Tn, l.length ≤ sizes l
  | [] => Nat.le_refl _
  | t :: r => by rw [sizes_cons, List.length_cons]; have := psizes_len r; have : 1 ≤ sizeT t := by unfold sizeT; omega
                 omega
theorem kidsL_len (F : Fo) : lenF F ≤ sizes (kidsL F) := by rw [← kids_len]; exact psizes_len _
theorem psizes_take (l : List Tn) (j : Nat) : sizes (l.take j) ≤ sizes l := by
  have := sizes_append (l.take j) (l.drop j)
  rw [List.take_append_drop] at this
  omega
theorem sizes_memK {t : Tn} : ∀ {l : List Tn}, t ∈ l → sizeT t ≤ sizes l
  | x :: r, h => by
    rw [sizes_cons]
    rcases List.mem_cons.1 h with rfl | h
    · omega
    · have := sizes_memK h; omega
/-- The cells of a term of a row. -/
theorem RowAt.cells3 {w : World} {a : Option Addr} {ks : List Kv} (h : RowAt w a ks.length ks) {j : Nat} {k : Kv} (hk : ks[j]? = some k) : ∃ b o, a = some ⟨b, o, none⟩ ∧ w.cell? ⟨b, o + j * 3, none⟩ = some (.string k.x.1) ∧ w.cell? ⟨b, o + j * 3 + 1, none⟩ = some (.int .i64 k.x.2) ∧ w.cell? ⟨b, o + j * 3 + 2, none⟩ = some (.slice k.a (lenF k.l) k.c) := by
  obtain ⟨c0, c1, c2⟩ := kv_cells hk
  obtain ⟨b, o, e, h0⟩ := h.cells _ _ c0
  obtain ⟨b1, o1, e1, h1⟩ := h.cells _ _ c1
  obtain ⟨b2, o2, e2, h2⟩ := h.cells _ _ c2
  rw [e] at e1 e2
  cases e1
  cases e2
  exact ⟨b, o, e, h0, by rw [Nat.add_assoc]; exact h1, by rw [Nat.add_assoc]; exact h2⟩
theorem drop_cons {α : Type} {l : List α} {j : Nat} {x : α} (h : l[j]? = some x) : l.drop j = x :: l.drop (j + 1) := by
  obtain ⟨hj, rfl⟩ := List.getElem?_eq_some_iff.1 h
  exact List.drop_eq_getElem_cons hj
theorem take_snoc {α : Type} {l : List α} {j : Nat} {x : α} (h : l[j]? = some x) : l.take (j + 1) = l.take j ++ [x] := by
  rw [List.take_add_one, h]; rfl

/-- Where flatten stands before the term j. -/
structure FlatSt (S : Sg) (f : Int) (A : Bl) (w : World) (hv : Array Value) (ks : List Kv) (j : Nat) (kall : Kv) (W : World) : Prop where
  head : kall.x = (noB, f)
  gl : GL LoosE W (kall :: ks.drop j) (fun q => (A q ∧ q < w.heap.size) ∨ w.heap.size + 2 ≤ q)
  turned : Turned A w W
  fbox : BoxK W w.heap.size 99 hv
  rbox : XBox W (w.heap.size + 1) (⟨#[]⟩, 0) (.slice none 0 0)
  flat : FlatR S f ((ks.take j).map Kv.tn) (kidsL kall.l)
theorem FlatSt.size {S : Sg} {f : Int} {A : Bl} {w W : World} {hv : Array Value} {ks : List Kv} {j : Nat} {kall : Kv} (h : FlatSt S f A w hv ks j kall W) (hs : sizes (ks.map Kv.tn) ≤ 1048576) : lenF kall.l ≤ 1048576 := by
  have h1 := kidsL_len kall.l
  have h2 := flat_sizes h.flat
  have h3 := psizes_take (ks.map Kv.tn) j
  rw [← List.map_take] at h3
  omega
/-- A step: the list all and the term k have made another list. -/
theorem FlatSt.step {S : Sg} {f : Int} {A : Bl} {w W W2 W3 : World} {hv : Array Value} {ks : List Kv} {j : Nat} {kall k k' : Kv} {A1 A2 R2 : Bl} (h : FlatSt S f A w hv ks j kall W) (hk : ks[j]? = some k)
    (a1 : ∀ q, A1 q → ((A q ∧ q < w.heap.size) ∨ w.heap.size + 2 ≤ q) ∧ q < W.heap.size) (a2 : ∀ q, A2 q → ((A q ∧ q < w.heap.size) ∨ w.heap.size + 2 ≤ q) ∧ q < W.heap.size) (r2 : ∀ q, R2 q → (((A q ∧ q < w.heap.size) ∨ w.heap.size + 2 ≤ q) ∧ q < W.heap.size) ∧ ¬ A1 q ∧ ¬ A2 q)
    (hr : GL LoosE W (ks.drop (j + 1)) R2) (hb : Below W.heap.size W W2) (ht : Turned (fun q => A1 q ∨ A2 q) W2 W3) (hx : k'.x = (noB, f)) (hE : LoosE W3 (fun q => (A1 q ∨ A2 q) ∨ W2.heap.size ≤ q) k') {p : List Tn} (hp : PartR S f k.tn p) (hperm : List.Perm (kidsL k'.l) (kidsL kall.l ++ p)) : FlatSt S f A w hv ks (j + 1) k' W3 := by
  have hbs := hb.size
  have hfl := h.fbox.lt
  have hrl := h.rbox.lt
  have key : ∀ q, q < W.heap.size → ¬ A1 q → ¬ A2 q → W3.heap[q]? = W.heap[q]? := fun q hq n1 n2 => (ht.block q (by omega) (fun e => e.elim n1 n2)).trans (hb.block q hq)
  have nf : ∀ q, (q = w.heap.size ∨ q = w.heap.size + 1) → ¬ A1 q ∧ ¬ A2 q := fun q hq => ⟨fun h' => by rcases (a1 q h').1 with h | h <;> omega, fun h' => by rcases (a2 q h').1 with h | h <;> omega⟩
  refine ⟨hx, ?_, ?_, ?_, ?_, ?_⟩
  · have h3 : GL LoosE W3 (ks.drop (j + 1)) R2 := hr.keep loosE (fun q hq hlt => key q hlt (r2 q hq).2.1 (r2 q hq).2.2)
    refine (GL.cons hE h3 (fun q hq hR => ?_)).mono (fun q hq => ?_)
    · rcases hq with (hq | hq) | hq
      · exact (r2 q hR).2.1 hq
      · exact (r2 q hR).2.2 hq
      · have := (r2 q hR).1.2; omega
    · rcases hq with ((hq | hq) | hq) | hq
      · exact (a1 q hq).1
      · exact (a2 q hq).1
      · exact .inr (by omega)
      · exact (r2 q hq).1.1
  · refine (h.turned.then (Turned.of_below hb A) (fun q _ hq => hq)).then ht (fun q hq hx => ?_)
    rcases hx with hx | hx
    · rcases (a1 q hx).1 with h | h
      · exact h.1
      · omega
    · rcases (a2 q hx).1 with h | h
      · exact h.1
      · omega
  · exact (key _ hfl (nf _ (.inl rfl)).1 (nf _ (.inl rfl)).2).trans h.fbox
  · exact (key _ hrl (nf _ (.inr rfl)).1 (nf _ (.inr rfl)).2).trans h.rbox
  · rw [take_snoc hk, List.map_append]
    exact FlatR.snoc hp h.flat hperm
/-- The list all and the next term, apart. -/
theorem FlatSt.apart {S : Sg} {f : Int} {A : Bl} {w W : World} {hv : Array Value} {ks : List Kv} {j : Nat} {kall k : Kv} (h : FlatSt S f A w hv ks j kall W) (hk : ks[j]? = some k) : ∃ A1 A2 R2 : Bl, LoosE W A1 kall ∧ LoosE W A2 k ∧ GL LoosE W (ks.drop (j + 1)) R2 ∧ (∀ q, A1 q → ¬ A2 q) ∧
    (∀ q, A1 q → ((A q ∧ q < w.heap.size) ∨ w.heap.size + 2 ≤ q) ∧ q < W.heap.size) ∧ (∀ q, A2 q → ((A q ∧ q < w.heap.size) ∨ w.heap.size + 2 ≤ q) ∧ q < W.heap.size) ∧ (∀ q, R2 q → (((A q ∧ q < w.heap.size) ∨ w.heap.size + 2 ≤ q) ∧ q < W.heap.size) ∧ ¬ A1 q ∧ ¬ A2 q) := by
  have hg := h.gl.within loosE
  rw [drop_cons hk] at hg
  obtain ⟨A1, R1, a1, r1, e1, A2, R2, a2, r2, e2, g⟩ := hg
  exact ⟨A1, A2, R2, e1, e2, g, fun q hq h2 => (r1 q (a2 q h2)).2 hq, a1, fun q hq => (r1 q (a2 q hq)).1, fun q hq => ⟨(r1 q (r2 q hq).1).1, (r1 q (r2 q hq).1).2, (r2 q hq).2⟩⟩

theorem sepKids_mk {w : World} : ∀ {F : Fo} {A : Bl} {b o : Nat}, SepKids w F A b o → SepKids w (mkF (kidsL F)) A b o
  | .nil, _, _, _, _ => trivial
  | .node _ _ _ _ _, _, _, _, ⟨A1, A2, h1, h2, h3, h4⟩ => ⟨A1, A2, h1, h2, h3, sepKids_mk h4⟩
theorem len_mk_kids (F : Fo) : lenF (mkF (kidsL F)) = lenF F := by rw [len_mk, kids_len]
theorem LoosE.mk {w : World} {A : Bl} {k : Kv} (h : LoosE w A k) : LoosE w A ⟨k.x, mkF (kidsL k.l), k.a, k.c⟩ := by
  obtain ⟨⟨hs, hl⟩, hr⟩ := h
  refine ⟨⟨by rw [len_mk_kids]; exact hs, ?_⟩, fun hn => ?_⟩
  · rcases hl with e | ⟨g, cur, e1, e2, e3, e4⟩
    · left; show mkF (kidsL k.l) = _; rw [e]; rfl
    · exact .inr ⟨g, cur, e1, e2, e3, sepKids_mk e4⟩
  · rcases hr hn with ⟨h1, h2, h3⟩ | h'
    · exact .inl ⟨h1, h2, by show lenF (mkF (kidsL k.l)) = 0; rw [len_mk_kids]; exact h3⟩
    · exact .inr h'

set_option maxRecDepth 100000 in
set_option maxHeartbeats 2000000 in
theorem flatten_any (S : Option Addr) (n cap : Nat) (l : List Sym) (f : Int) (ks : List Kv) (a : Option Addr) (c B : Nat) (A : Bl) (w : World) (hS : SigLow B w S n l) (hB : B ≤ w.heap.size) (hA : ∀ q, A q → B ≤ q) (hrow : RowFix A w a ks) (hks : GL LoosE w ks A) (hk : kindK l f ≠ 1) (hsz : sizes (ks.map Kv.tn) ≤ 1048576) :
    Calls Tryz.prog 102 #[.agg (headV S n cap l f), .slice a ks.length c] w fun e w' => ∃ k : Kv, e = .returned (.agg #[.string k.x.1, .int .i64 k.x.2, .slice k.a (lenF k.l) k.c]) ∧ FlatOut (sgOf l) f (ks.map Kv.tn) k.tn ∧ LoosE w' (fun q => A q ∨ w.heap.size ≤ q) k ∧ Turned A w w' := by
  have HS : Hid (SigLow B w S n l) := hS
  have HA : Hid (∀ q, A q → B ≤ q) := hA
  have HR : Hid (RowFix A w a ks) := hrow
  have HKS : Hid (GL LoosE w ks A) := hks
  have HSZ : Hid (sizes (ks.map Kv.tn) ≤ 1048576) := hsz
  have hlen : ks.length ≤ 1048576 := by have := psizes_len (ks.map Kv.tn); rw [List.length_map] at this; omega
  obtain ⟨i0, hi, hz0, hz1, hz2⟩ := info_parts Tryz.info26
  have hmax : maxLen = 9223372036854775807 := rfl
  have HKD : Hid ((!decide (kindK l f = 1)) = true) := by show _ = _; simp [hk]
  clear hS hA hrow hks hsz hk
  unfold headV
  by_cases h1 : ks.length = 1
  · obtain ⟨k0, rfl⟩ := List.length_eq_one_iff.1 h1
    have hbb : ∀ o1 o2, Below w.heap.size w ((w.alloc o1).alloc o2) := fun o1 o2 => ((Below.refl _ w).alloc (Nat.le_refl _) o1).alloc (by simp) o2
    obtain ⟨bb, oo, rfl, p0, p1, p2⟩ := (HR.out _ (Turned.of_below (hbb (.cells #[.slice S n cap, .int .i64 f, .int .i64 (kindK l f), .int .i64 (unitI l f), .bool (unitOk l f)] 99) (.cells #[.string ⟨#[]⟩, .int .i64 0, .slice none 0 0] 26)) A)).cells3 (j := 0) (k := k0) rfl
    rw [Nat.zero_mul, Nat.add_zero] at p0 p1 p2
    have HBB : Hid (∀ o1 o2, Below w.heap.size w ((w.alloc o1).alloc o2)) := hbb
    have hX : XBox ((w.alloc (.cells #[.slice S n cap, .int .i64 f, .int .i64 (kindK l f), .int .i64 (unitI l f), .bool (unitOk l f)] 99)).alloc (.cells #[.string k0.x.1, .int .i64 k0.x.2, .slice k0.a (lenF k0.l) k0.c] 26)) (w.heap.size + 1) k0.x (.slice k0.a (lenF k0.l) k0.c) := by
      have := World.alloc_heap_new (w.alloc (.cells #[.slice S n cap, .int .i64 f, .int .i64 (kindK l f), .int .i64 (unitI l f), .bool (unitOk l f)] 99)) (.cells #[.string k0.x.1, .int .i64 k0.x.2, .slice k0.a (lenF k0.l) k0.c] 26)
      rw [World.size_alloc] at this
      exact this
    have HX := hidK hX
    clear hbb hX
    go_enter Tryz.func102, Tryz.ntmps102
    go_wp2
    refine bodyPost_ret (results_cell_row rfl _ _ (w.heap.size + 1) 26 #[.string k0.x.1, .int .i64 k0.x.2, .slice k0.a (lenF k0.l) k0.c] (0, 0) _ rfl HX.out Tryz.underlying26 rfl Tryz.size26) rfl ?_
    obtain ⟨A1, h1, h2⟩ := HKS.out.mem (k := k0) (by simp)
    exact ⟨k0, rfl, .inl rfl, loosE.mono (fun q hq => .inl (h1 q hq)) (loosE.keep (fun q _ hq => (HBB.out _ _).block q hq) h2), Turned.of_below (HBB.out _ _) A⟩
  · have hne : ((ks.length : Int) == 1) = false := by simp; omega
    have HH1 : Hid (¬ ks.length = 1) := h1
    clear h1
    obtain ⟨kd, hkd⟩ : ∃ kd, kindK l f = kd := ⟨_, rfl⟩
    obtain ⟨un, hun⟩ : ∃ un, unitI l f = un := ⟨_, rfl⟩
    obtain ⟨uo, huo⟩ : ∃ uo, unitOk l f = uo := ⟨_, rfl⟩
    rw [hkd] at HKD
    rw [hkd, hun, huo]
    clear hkd hun huo
    have HB0 : Hid (Below w.heap.size w ((w.alloc (.cells #[.slice S n cap, .int .i64 f, .int .i64 kd, .int .i64 un, .bool uo] 99)).alloc (.cells #[.string ⟨#[]⟩, .int .i64 0, .slice none 0 0] 26))) := ((Below.refl _ w).alloc (Nat.le_refl _) _).alloc (by simp) _
    have HF0 : Hid (BoxK ((w.alloc (.cells #[.slice S n cap, .int .i64 f, .int .i64 kd, .int .i64 un, .bool uo] 99)).alloc (.cells #[.string ⟨#[]⟩, .int .i64 0, .slice none 0 0] 26)) w.heap.size 99 #[.slice S n cap, .int .i64 f, .int .i64 kd, .int .i64 un, .bool uo]) := (BoxK.new w 99 _).below ((Below.refl _ _).alloc (Nat.le_refl _) _)
    have HX0 : Hid (XBox ((w.alloc (.cells #[.slice S n cap, .int .i64 f, .int .i64 kd, .int .i64 un, .bool uo] 99)).alloc (.cells #[.string ⟨#[]⟩, .int .i64 0, .slice none 0 0] 26)) (w.heap.size + 1) (⟨#[]⟩, 0) (.slice none 0 0)) := by
      have := World.alloc_heap_new (w.alloc (.cells #[.slice S n cap, .int .i64 f, .int .i64 kd, .int .i64 un, .bool uo] 99)) (.cells #[.string ⟨#[]⟩, .int .i64 0, .slice none 0 0] 26)
      rw [World.size_alloc] at this
      exact this
    go_enter Tryz.func102, Tryz.ntmps102
    go_wp2_with (at_make; refine wpList_make_own _ rfl _ _ 24 rfl 0 26 i0 (.agg #[.string ⟨#[]⟩, .int .i64 0, .slice none 0 0]) 3 Tryz.underlying24 hi hz0 hz1 .i64 .i64 _ ks.length rfl rfl rfl (by rw [hz2]; omega) (by omega) (Nat.zero_le _) ?_; intro w0 hown0 hgrow0)
    have ST0 : Hid (FlatSt (sgOf l) f A w #[.slice S n cap, .int .i64 f, .int .i64 kd, .int .i64 un, .bool uo] ks 0 ⟨(noB, f), .nil, some ⟨w.heap.size + 1 + 1, 0, none⟩, ks.length⟩ w0) := by
      have hb3 : Below w.heap.size w w0 := HB0.out.grown hgrow0 (by simp; omega) (fun k e => by cases e)
      have hg0 : ∀ q, q < w.heap.size + 2 → w0.heap[q]? = ((w.alloc (.cells #[.slice S n cap, .int .i64 f, .int .i64 kd, .int .i64 un, .bool uo] 99)).alloc (.cells #[.string ⟨#[]⟩, .int .i64 0, .slice none 0 0] 26)).heap[q]? := fun q hq => hgrow0.block q (by simp; omega) (by simp)
      refine ⟨rfl, ?_, Turned.of_below hb3 A, (hg0 _ (by omega)).trans HF0.out, (hg0 _ (by omega)).trans HX0.out, rfl⟩
      have hrest : GL LoosE w0 ks (fun q => A q ∧ q < w.heap.size) := (HKS.out.within loosE).keep loosE (fun q _ hq => hb3.block q hq)
      have hall : LoosE w0 (fun q => q = w.heap.size + 2) ⟨(noB, f), .nil, some ⟨w.heap.size + 1 + 1, 0, none⟩, ks.length⟩ := by
        refine ⟨⟨⟨by show noB.size ≤ maxLen; decide, Nat.zero_le _, by show ks.length ≤ maxLen; omega, by simp [lenF]⟩, .inl rfl⟩, fun _ => ?_⟩
        rcases hown0.2 with ⟨hv, _⟩ | ⟨g', cap', cur, hv, _, hh, _, _, hcs, _⟩
        · cases hv
        · cases hv
          rw [World.size_alloc, World.size_alloc] at hh
          exact .inr ⟨w.heap.size + 1 + 1, cur, rfl, rfl, hh, hcs⟩
      refine (GL.cons hall hrest (fun q hq h => by have := h.2; omega)).mono (fun q hq => ?_)
      rcases hq with h | h
      · exact .inr (by omega)
      · exact .inl h
    clear hown0 hgrow0 HB0 HF0 HX0
    go_loopw [5, 7, 19] (fun ov _ i wr => ∃ (j : Nat) (k : Kv), j ≤ ks.length ∧ ov = .slice k.a (lenF k.l) k.c ∧ i = .int .i64 j ∧ FlatSt (sgOf l) f A w #[.slice S n cap, .int .i64 f, .int .i64 kd, .int .i64 un, .bool uo] ks j k wr) (fun _ _ i _ => ks.length - (intOf i).toNat)
    case atStart => exact ⟨0, _, Nat.zero_le _, rfl, rfl, ST0.out⟩
    case round =>
      obtain ⟨j, k, hj, rfl, rfl, hst⟩ := hrel
      have ST : Hid (FlatSt (sgOf l) f A w #[.slice S n cap, .int .i64 f, .int .i64 kd, .int .i64 un, .bool uo] ks j k wr) := hst
      clear hst
      by_cases hlt : j < ks.length
      · obtain ⟨kj, hkj⟩ : ∃ kj, ks[j]? = some kj := ⟨_, List.getElem?_eq_getElem hlt⟩
        obtain ⟨bb, oo, rfl, p0, p1, p2⟩ := (HR.out wr ST.out.turned).cells3 hkj
        obtain ⟨A1, A2, R2, e1, e2, g, d12, a1, a2, r2⟩ := ST.out.apart hkj
        have HKJ : Hid (ks[j]? = some kj) := hkj
        have HE1 : Hid (LoosE wr A1 k) := e1
        have HE2 : Hid (LoosE wr A2 kj) := e2
        have HGR : Hid (GL LoosE wr (ks.drop (j + 1)) R2) := g
        have HD : Hid (∀ q, A1 q → ¬ A2 q) := d12
        have HA1 : Hid (∀ q, A1 q → ((A q ∧ q < w.heap.size) ∨ w.heap.size + 2 ≤ q) ∧ q < wr.heap.size) := a1
        have HA2 : Hid (∀ q, A2 q → ((A q ∧ q < w.heap.size) ∨ w.heap.size + 2 ≤ q) ∧ q < wr.heap.size) := a2
        have HR2 : Hid (∀ q, R2 q → (((A q ∧ q < w.heap.size) ∨ w.heap.size + 2 ≤ q) ∧ q < wr.heap.size) ∧ ¬ A1 q ∧ ¬ A2 q) := r2
        have hb1 : Below wr.heap.size wr (wr.alloc (.cells #[.string kj.x.1, .int .i64 kj.x.2, .slice kj.a (lenF kj.l) kj.c] 26)) := (Below.refl _ _).alloc (Nat.le_refl _) _
        have HB1 : Hid (Below wr.heap.size wr (wr.alloc (.cells #[.string kj.x.1, .int .i64 kj.x.2, .slice kj.a (lenF kj.l) kj.c] 26))) := hb1
        have hX : XBox (wr.alloc (.cells #[.string kj.x.1, .int .i64 kj.x.2, .slice kj.a (lenF kj.l) kj.c] 26)) wr.heap.size kj.x (.slice kj.a (lenF kj.l) kj.c) := World.alloc_heap_new wr _
        have HX : Hid (XBox (wr.alloc (.cells #[.string kj.x.1, .int .i64 kj.x.2, .slice kj.a (lenF kj.l) kj.c] 26)) wr.heap.size kj.x (.slice kj.a (lenF kj.l) kj.c)) := hX
        have fb := ST.out.fbox.below hb1
        have q0 := fb.c 0; have q1 := fb.c 1; have q2 := fb.c 2; have q3 := fb.c 3; have q4 := fb.c 4
        have hfe : wr.heap.size ≠ w.heap.size := by have := ST.out.fbox.lt; omega
        have hll := ST.out.size HSZ.out
        obtain ⟨gb, hgb⟩ : ∃ gb, (!decide (kd = 1) && headed f kj.tn) = gb := ⟨_, rfl⟩
        have HC : Hid (∀ W, Calls Tryz.prog 110 #[.agg #[.slice S n cap, .int .i64 f, .int .i64 kd, .int .i64 un, .bool uo], .agg #[.string kj.x.1, .int .i64 kj.x.2, .slice kj.a (lenF kj.l) kj.c]] W fun e w' => e = .returned (.bool gb) ∧ Below W.heap.size W w') := fun W => by
          have := gathers_anyK S n cap f kd un uo kj.tn kj.a kj.c W
          rw [hgb] at this
          exact this
        have HGB : Hid ((!decide (kd = 1) && headed f kj.tn) = gb) := hgb
        clear hgb hkj e1 e2 g d12 a1 a2 r2 hb1 hX fb
        have arm : Hid (∀ w2, Below (wr.alloc (.cells #[.string kj.x.1, .int .i64 kj.x.2, .slice kj.a (lenF kj.l) kj.c] 26)).heap.size (wr.alloc (.cells #[.string kj.x.1, .int .i64 kj.x.2, .slice kj.a (lenF kj.l) kj.c] 26)) w2 → Below wr.heap.size wr w2 ∧ XBox w2 wr.heap.size kj.x (.slice kj.a (lenF kj.l) kj.c) ∧ BoxK w2 w.heap.size 99 #[.slice S n cap, .int .i64 f, .int .i64 kd, .int .i64 un, .bool uo]) := fun w2 hb2 => ⟨HB1.out.trans (hb2.mono HB1.out.size), HX.out.below hb2, (ST.out.fbox.below HB1.out).below hb2⟩
        cases gb
        · have hnh : headed f kj.tn = false := by have h1 := HKD.out; have h2 := HGB.out; rw [h1] at h2; simpa using h2
          have HNH : Hid (headed f kj.tn = false) := hnh
          have HSE : Hid (∀ w2, Below wr.heap.size wr w2 → Calls Tryz.prog 42 #[.slice S n cap, .agg #[.string kj.x.1, .int .i64 kj.x.2, .slice kj.a (lenF kj.l) kj.c]] w2 fun e w' => ∃ F, e = .returned (.agg #[.string kj.x.1, .int .i64 kj.x.2, .slice kj.a (lenF F) kj.c]) ∧ lenF F = lenF kj.l ∧ SetR (sgOf l) kj.tn (kj.x, F) ∧ LoosE w' A2 ⟨kj.x, F, kj.a, kj.c⟩ ∧ Turned A2 w2 w') := fun w2 hb => settle_anyK S n cap l kj A2 w2 (HS.out w2 ((ST.out.turned.below HA.out hB).trans (hb.mono (by have := ST.out.turned.size; omega)))) (loosE.keep (fun q _ hq => hb.block q hq) HE2.out)
          have AR : Hid (∀ w2 w3 o, Below wr.heap.size wr w2 → Turned A2 w2 w3 → LoosE (w3.alloc o) A1 k ∧ w2.heap.size ≤ w3.heap.size) := fun w2 w3 o hb ht => ⟨loosE.keep (fun q hq hlt => by
            have h2 := hb.size
            have h3 := ht.size
            exact (Below.heap_alloc _ _ _ (by omega)).trans ((ht.block q (by omega) (HD.out q hq)).trans (hb.block q hlt))) HE1.out, ht.size⟩
          have HNK : Hid (noName k.x.1 = true) := by show _ = _; rw [ST.out.head]; exact noName_noB
          have HXK : Hid (k.x.1.size ≤ maxLen) := HE1.out.1.sizes.name
          clear hnh
          go_wp2_with (first
            | (at_builtin; obtain ⟨la, l1, l2, l3, l4⟩ := (AR.out w2 w3 (.cells #[.string kj.x.1, .int .i64 kj.x.2, .slice kj.a (lenF F) kj.c] 26) HW2.out HT3.out).1.row HNK.out; have hl0 : la.length = lenF k.l := (by have := congrArg List.length l1; rwa [List.length_map, kids_len] at this); refine wpList_append_all rfl _ _ rfl 0 (.slice k.a (lenF k.l) k.c) la rfl (by rw [hl0]; exact l2 0 (fun q _ => Nat.zero_le q)) (some ⟨w3.heap.size, 0, none⟩) 1 1 [⟨kj.x, F, kj.a, kj.c⟩] rfl (RowAt.new w3 ⟨kj.x, F, kj.a, kj.c⟩) (fun e => by cases e) (by omega) (Nat.zero_le _) ?_; intro v' w5 hown hgrow hat; obtain ⟨a', c', e', hL, hT⟩ := app_loosE (x := k.x) (B := A2) HXK.out l3 l4 (GL.one (E := SepE) (sepE.keep (fun q _ hq => Below.heap_alloc _ _ _ hq) HE3.out.1)) HD.out hown hgrow hat (by rw [List.length_append, hl0]; simp; omega); have HL := hidK hL; have HT5 := hidK hT; have HL1 : Hid (la.map Kv.tn = kidsL k.l) := l1; have HEV : Hid (la.length = lenF k.l) := hl0; clear hown hgrow hat l1 l2 l3 l4 hL hT hl0; subst e')
            | (go_at_call 42; refine (HSE.out _ HW2.out).mono ?_; rintro e w3 ⟨F, rfl, hF, hset, hE3, ht3⟩; have HF3 : Hid (lenF F = lenF kj.l) := hF; have HST : Hid (SetR (sgOf l) kj.tn (kj.x, F)) := hset; have HE3 : Hid (LoosE w3 A2 ⟨kj.x, F, kj.a, kj.c⟩) := hE3; have HT3 : Hid (Turned A2 w2 w3) := ht3; clear hF hset hE3 ht3)
            | (go_at_call 110; refine (HC.out _).mono ?_; rintro e w2 ⟨rfl, hb2⟩; have ha := arm.out w2 hb2; have HW2 : Hid (Below wr.heap.size wr w2) := ha.1; have x0 := ha.2.1.c0; have x1 := ha.2.1.c1; have x2 := ha.2.1.c2; have y0 := ha.2.2.c 0; clear ha hb2 q0 q1 q2 q3 q4)
            | fail)
          go_roundw
          case rel =>
            have hm : kidsL (mkF ((la ++ [(⟨kj.x, F, kj.a, kj.c⟩ : Kv)]).map Kv.tn)) = kidsL k.l ++ [(kj.x, F)] := by rw [kids_mk, List.map_append, HL1.out]; rfl
            have hal := (Below.refl w3.heap.size w3).alloc (Nat.le_refl _) (.cells #[.string kj.x.1, .int .i64 kj.x.2, .slice kj.a (lenF F) kj.c] 26)
            have ht : Turned (fun q => A1 q ∨ A2 q) w2 w5 := ((HT3.out.mono (fun q _ hq => .inr hq)).trans (Turned.of_below hal _)).trans (HT5.out.mono (fun q _ hq => .inl hq))
            refine ⟨j + 1, ⟨k.x, mkF ((la ++ [(⟨kj.x, F, kj.a, kj.c⟩ : Kv)]).map Kv.tn), a', c'⟩, by omega, by simp [len_mk], by go_num, ST.out.step HKJ.out HA1.out HA2.out HR2.out HGR.out HW2.out ht ST.out.head (loosE.mono (fun q hq => ?_) HL.out) (p := [(kj.x, F)]) (by unfold PartR; rw [HNH.out]; exact ⟨_, HST.out, rfl⟩) (by rw [hm])⟩
            rcases hq with h | h | h
            · exact .inl (.inl h)
            · exact .inl (.inr h)
            · exact .inr (by have := HT3.out.size; rw [World.size_alloc] at h; omega)
          case measure => simp [intOf]; omega
        · have hh : headed f kj.tn = true := by have h2 := HGB.out; simp at h2; exact h2.2
          have HHH : Hid (headed f kj.tn = true) := hh
          have hnn : noName kj.x.1 = true := (headed_iff.1 hh).1
          have HTG : Hid (∀ w2, Below wr.heap.size wr w2 → Calls Tryz.prog 111 #[.slice k.a (lenF k.l) k.c, .slice kj.a (lenF kj.l) kj.c] w2 fun e w' => ∃ F a c, e = .returned (.slice a (lenF F) c) ∧ List.Perm (kidsL F) (kidsL k.l ++ kidsL kj.l) ∧ LoosE w' (fun q => (A1 q ∨ A2 q) ∨ w2.heap.size ≤ q) ⟨k.x, F, a, c⟩ ∧ Turned (fun q => A1 q ∨ A2 q) w2 w') := fun w2 hb => by
            refine together_any k kj A1 A2 w2 (loosE.keep (fun q _ hq => hb.block q hq) HE1.out) (loosE.keep (fun q _ hq => hb.block q hq) HE2.out) (by rw [ST.out.head]; exact noName_noB) hnn HD.out ?_
            have h1 := sizes_memK (List.mem_map_of_mem (f := Kv.tn) (List.mem_of_getElem? HKJ.out))
            have h2 := len_nodes kj.l
            have h3 : sizeT kj.tn = nodesF kj.l + 1 := rfl
            have h4 := HSZ.out
            omega
          clear hh hnn
          go_wp2_with (first
            | (go_at_call 111; refine (HTG.out _ HW2.out).mono ?_; rintro e w3 ⟨F, a', c', rfl, hp3, hE3, ht3⟩; have HP3 : Hid (List.Perm (kidsL F) (kidsL k.l ++ kidsL kj.l)) := hp3; have HE3 : Hid (LoosE w3 (fun q => (A1 q ∨ A2 q) ∨ w2.heap.size ≤ q) ⟨k.x, F, a', c'⟩) := hE3; have HT3 : Hid (Turned (fun q => A1 q ∨ A2 q) w2 w3) := ht3; clear hp3 hE3 ht3)
            | (go_at_call 110; refine (HC.out _).mono ?_; rintro e w2 ⟨rfl, hb2⟩; have ha := arm.out w2 hb2; have HW2 : Hid (Below wr.heap.size wr w2) := ha.1; have x0 := ha.2.1.c0; have x1 := ha.2.1.c1; have x2 := ha.2.1.c2; have y0 := ha.2.2.c 0; clear ha hb2 q0 q1 q2 q3 q4)
            | fail)
          go_roundw
          case rel => exact ⟨j + 1, ⟨k.x, F, a', c'⟩, by omega, rfl, by go_num, ST.out.step HKJ.out HA1.out HA2.out HR2.out HGR.out HW2.out HT3.out ST.out.head HE3.out (by unfold PartR; rw [HHH.out]; exact List.Perm.refl _) HP3.out⟩
          case measure => simp [intOf]; omega
      · have ej : j = ks.length := by omega
        have c1 : wr.cell? ⟨w.heap.size, 1, none⟩ = some (.int .i64 f) := ST.out.fbox.c 1
        have X2 := ST.out.rbox
        have r0 := X2.c0; have r1 := X2.c1; have r2 := X2.c2
        have g0 := X2.f (k := 0); have g1 := X2.f (k := 1); have g2 := X2.f (k := 2)
        clear X2
        go_wp2
        refine bodyPost_ret (results_cell_row rfl _ _ (w.heap.size + 1) 26 #[.string ⟨#[]⟩, .int .i64 f, .slice k.a (lenF k.l) k.c] (0, 0) _ rfl (ST.out.rbox.all (x := (⟨#[]⟩, f)) _) Tryz.underlying26 rfl Tryz.size26) rfl ?_
        obtain ⟨A1, R1, a1, r1, e1, _⟩ := ST.out.gl
        have hx := ST.out.head
        have hE := e1.mk
        rw [hx] at hE
        refine ⟨⟨(noB, f), mkF (kidsL k.l), k.a, k.c⟩, by rw [len_mk_kids]; rfl, .inr ⟨by rw [List.length_map]; exact HH1.out, kidsL k.l, ?_, rfl⟩, ?_, ?_⟩
        · have := ST.out.flat
          rwa [ej, List.take_length] at this
        · refine loosE.mono (fun q hq => ?_) (loosE.keep (fun q hq _ => sets_far ?_ _ _ _) hE)
          · rcases a1 q hq with h | h
            · exact .inl h.1
            · exact .inr (by omega)
          · rcases a1 q hq with h | h <;> omega
        · have hT := ST.out.turned
          exact ⟨hT.os, hT.tape, hT.output, by have := hT.size; simp; omega, fun q hq hn => (sets_far (by omega) _ _ _).trans (hT.block q hq hn)⟩
end Go.Proofs.YtokbgbbkopmngaaGreat
/- What keep of package canon makes of loose forms: each in order, in its place. -/
namespace Go.Proofs.YtokbgbbkopmngaaGreat
open Go.RowKit Go.Deep

/-- A row of terms from a block's head on, with room for c. -/
structure RowL (w : World) (g c : Nat) (ks : List Kv) : Prop where
  row : ∃ cur, w.heap[g]? = some (Obj.cells cur 26 (0, 0)) ∧ cur.size = c * 3 ∧ ∀ (j : Nat) (u : Value), (kvCells ks)[j]? = some u → cur[j]? = some u
  len : ks.length ≤ c
theorem RowL.lt {w : World} {g c : Nat} {ks : List Kv} (h : RowL w g c ks) : g < w.heap.size := by
  obtain ⟨cur, h1, _⟩ := h.row
  exact (Array.getElem?_eq_some_iff.1 h1).1
theorem RowL.keep {w w' : World} {g c : Nat} {ks : List Kv} (h : RowL w g c ks) (hg : w'.heap[g]? = w.heap[g]?) : RowL w' g c ks := by
  obtain ⟨cur, h1, h2, h3⟩ := h.row
  exact ⟨⟨cur, hg.trans h1, h2, h3⟩, h.len⟩
theorem RowL.at_ {w : World} {g c : Nat} {ks : List Kv} (h : RowL w g c ks) : RowAt w (some ⟨g, 0, none⟩) ks.length ks := by
  obtain ⟨cur, h1, h2, h3⟩ := h.row
  exact ⟨rfl, fun j u hu => ⟨g, 0, rfl, by rw [Nat.zero_add, cell_of_row w g j cur 26 (0, 0) h1]; exact h3 j u hu⟩⟩
theorem RowL.cell {w : World} {g c : Nat} {ks : List Kv} (h : RowL w g c ks) {i : Nat} (hi : i < c * 3) : ∃ v, w.cell? ⟨g, i, none⟩ = some v := by
  obtain ⟨cur, h1, h2, _⟩ := h.row
  exact ⟨cur[i]'(by omega), by rw [cell_of_row w g i cur 26 (0, 0) h1]; simp [show i < cur.size by omega]⟩
theorem RowL.frozen {w : World} {g c : Nat} {ks : List Kv} (h : RowL w g c ks) (i : Nat) : w.frozen? ⟨g, i, none⟩ = false := by
  obtain ⟨cur, h1, _⟩ := h.row
  simp [World.frozen?, h1]
theorem kvCells_set (ks : List Kv) (j : Nat) (k : Kv) (hj : j < ks.length) (i : Nat) : (kvCells (ks.set j k))[i]? = if i / 3 = j then k.cells[i % 3]? else (kvCells ks)[i]? := by
  by_cases hi : i / 3 < ks.length
  · have e : i = i / 3 * 3 + i % 3 := by omega
    by_cases hij : i / 3 = j
    · rw [if_pos hij]
      have h1 : (ks.set j k)[i / 3]? = some k := by rw [hij]; simp [hj]
      rw [e]
      have := kvCells_nth (ks.set j k) (i / 3) (i % 3) h1 (by omega)
      rw [this]
      congr 1
      omega
    · rw [if_neg hij]
      have h1 : (ks.set j k)[i / 3]? = ks[i / 3]? := by rw [List.getElem?_set_ne (fun h => hij h.symm)]
      have h2 : ks[i / 3]? = some ks[i / 3] := List.getElem?_eq_getElem hi
      rw [e, kvCells_nth (ks.set j k) (i / 3) (i % 3) (h1.trans h2) (by omega), kvCells_nth ks (i / 3) (i % 3) h2 (by omega)]
  · rw [if_neg (by omega), List.getElem?_eq_none (by rw [kvCells_len, List.length_set]; omega), List.getElem?_eq_none (by rw [kvCells_len]; omega)]
/-- A term is stored at a place. -/
theorem RowL.set {w : World} {g c : Nat} {ks : List Kv} (h : RowL w g c ks) {j : Nat} (hj : j < ks.length) (k : Kv) :
    RowL (((w.setCell ⟨g, j * 3, none⟩ (.string k.x.1)).setCell ⟨g, j * 3 + 1, none⟩ (.int .i64 k.x.2)).setCell ⟨g, j * 3 + 2, none⟩ (.slice k.a (lenF k.l) k.c)) g c (ks.set j k) := by
  obtain ⟨cur, h1, h2, h3⟩ := h.row
  have hl := h.len
  refine ⟨⟨_, block_set (block_set (block_set h1 _) _) _, by simp [h2], fun i u hu => ?_⟩, by rw [List.length_set]; exact hl⟩
  rw [kvCells_set ks j k hj] at hu
  simp only [Array.getElem?_setIfInBounds, Array.size_setIfInBounds]
  by_cases hij : i / 3 = j
  · rw [if_pos hij] at hu
    have hcase : i = j * 3 ∨ i = j * 3 + 1 ∨ i = j * 3 + 2 := by omega
    rcases hcase with e | e | e
    · subst e
      rw [if_neg (by omega), if_neg (by omega), if_pos rfl, if_pos (by omega)]
      rw [show j * 3 % 3 = 0 by omega] at hu
      simpa [Kv.cells] using hu
    · subst e
      rw [if_neg (by omega), if_pos rfl, if_pos (by omega)]
      rw [show (j * 3 + 1) % 3 = 1 by omega] at hu
      simpa [Kv.cells] using hu
    · subst e
      rw [if_pos rfl, if_pos (by omega)]
      rw [show (j * 3 + 2) % 3 = 2 by omega] at hu
      simpa [Kv.cells] using hu
  · rw [if_neg hij] at hu
    rw [if_neg (by omega), if_neg (by omega), if_neg (by omega)]
    exact h3 i u hu
theorem sets_far3 {W : World} {g q i : Nat} (h : q ≠ g) (a b c : Value) : (((W.setCell ⟨g, i, none⟩ a).setCell ⟨g, i + 1, none⟩ b).setCell ⟨g, i + 2, none⟩ c).heap[q]? = W.heap[q]? :=
  (Below.heap_setCell _ _ _ _ h).trans ((Below.heap_setCell _ _ _ _ h).trans (Below.heap_setCell _ _ _ _ h))
theorem gl_set {E : World → Bl → Kv → Prop} {w : World} {ks : List Kv} {A : Bl} {j : Nat} {k : Kv} (h : GL E w ks A) (hj : ks[j]? = some k) : ∃ A1 A2 : Bl, (∀ q, A1 q → A q) ∧ (∀ q, A2 q → A q ∧ ¬ A1 q) ∧ E w A1 k ∧ GL E w (ks.take j ++ ks.drop (j + 1)) A2 := by
  have e : ks = ks.take j ++ k :: ks.drop (j + 1) := by rw [← drop_cons hj, List.take_append_drop]
  rw [e] at h
  obtain ⟨A1, A2, h1, h2, h3, h4⟩ := h.perm List.perm_middle
  exact ⟨A1, A2, h1, h2, h3, h4⟩
theorem gl_put {E : World → Bl → Kv → Prop} {w : World} {ks : List Kv} {A A1 A2 : Bl} {j : Nat} {k : Kv} (hj : j < ks.length) (h1 : ∀ q, A1 q → A q) (h2 : ∀ q, A2 q → A q ∧ ¬ A1 q) (hE : E w A1 k) (hg : GL E w (ks.take j ++ ks.drop (j + 1)) A2) : GL E w (ks.set j k) A := by
  have e : ks.set j k = ks.take j ++ k :: ks.drop (j + 1) := List.set_eq_take_append_cons_drop.trans (if_pos hj)
  rw [e]
  exact GL.perm List.perm_middle.symm ⟨A1, A2, h1, h2, hE, hg⟩

/-- Where keep stands before the term j. -/
structure KeepSt (S : Sg) (A : Bl) (w : World) (g c : Nat) (hv : Array Value) (ks : List Kv) (j : Nat) (ms : List Kv) (W : World) : Prop where
  len : ms.length = ks.length
  row : RowL W g c ms
  gl : GL LoosE W ms (fun q => A q ∧ q < w.heap.size)
  turned : Turned (fun q => A q ∨ q = g) w W
  fbox : BoxK W w.heap.size 99 hv
  rbox : XBox W (w.heap.size + 1) (⟨#[]⟩, 0) (.slice none 0 0)
  done : All2 (SetR S) ((ks.map Kv.tn).take j) ((ms.map Kv.tn).take j)
  rest : ms.drop j = ks.drop j

theorem KeepSt.step {S : Sg} {A A1 A2 : Bl} {w W w2 w3 : World} {g c : Nat} {hv : Array Value} {ks ms : List Kv} {j : Nat} {k : Kv} {F : Fo} (h : KeepSt S A w g c hv ks j ms W) (hg : ¬ A g) (hgl : g < w.heap.size) (hj : ms[j]? = some k) (h1 : ∀ q, A1 q → A q ∧ q < w.heap.size) (h2 : ∀ q, A2 q → (A q ∧ q < w.heap.size) ∧ ¬ A1 q)
    (hgl2 : GL LoosE W (ms.take j ++ ms.drop (j + 1)) A2) (hb : Below W.heap.size W w2) (ht : Turned A1 w2 w3) (hE : LoosE w3 A1 ⟨k.x, F, k.a, k.c⟩) (hset : SetR S k.tn (k.x, F)) :
    KeepSt S A w g c hv ks (j + 1) (ms.set j ⟨k.x, F, k.a, k.c⟩) (((w3.setCell ⟨g, j * 3, none⟩ (.string k.x.1)).setCell ⟨g, j * 3 + 1, none⟩ (.int .i64 k.x.2)).setCell ⟨g, j * 3 + 2, none⟩ (.slice k.a (lenF F) k.c)) := by
  have hbs := hb.size
  have hfl := h.fbox.lt
  have hrl := h.rbox.lt
  have hjl : j < ms.length := (List.getElem?_eq_some_iff.1 hj).1
  have n1 : ∀ q, q = g ∨ w.heap.size ≤ q → ¬ A1 q := fun q hq h' => by
    rcases hq with rfl | hq
    · exact hg (h1 q h').1
    · have := (h1 q h').2; omega
  have key : ∀ q, q < W.heap.size → ¬ A1 q → w3.heap[q]? = W.heap[q]? := fun q hq hn => (ht.block q (by omega) hn).trans (hb.block q hq)
  have far : ∀ q, q ≠ g → (((w3.setCell ⟨g, j * 3, none⟩ (.string k.x.1)).setCell ⟨g, j * 3 + 1, none⟩ (.int .i64 k.x.2)).setCell ⟨g, j * 3 + 2, none⟩ (.slice k.a (lenF F) k.c)).heap[q]? = w3.heap[q]? := fun q hq => sets_far3 hq _ _ _
  have ng : ∀ q, A q ∧ q < w.heap.size → q ≠ g := fun q hq e => hg (e ▸ hq.1)
  refine ⟨by rw [List.length_set]; exact h.len, RowL.set (h.row.keep (key g (by omega) (n1 g (.inl rfl)))) hjl ⟨k.x, F, k.a, k.c⟩, ?_, ?_, ?_, ?_, ?_, ?_⟩
  · refine gl_put hjl h1 h2 (loosE.keep (fun q hq _ => far q (ng q (h1 q hq))) hE) ?_
    exact hgl2.keep loosE (fun q hq hlt => (far q (ng q (h2 q hq).1)).trans (key q hlt (h2 q hq).2))
  · refine (h.turned.then (Turned.of_below hb (fun _ => False)) (fun q _ hq => hq.elim)).then (X := fun q => A1 q ∨ q = g) ?_ (fun q _ hq => by
      rcases hq with hq | hq
      · exact .inl (h1 q hq).1
      · exact .inr hq)
    exact ⟨ht.os, ht.tape, ht.output, by have := ht.size; simpa using this, fun q hq hn => (far q (fun e => hn (.inr e))).trans (ht.block q hq (fun e => hn (.inl e)))⟩
  · exact (far _ (by omega)).trans ((key _ hfl (n1 _ (.inr (Nat.le_refl _)))).trans h.fbox)
  · exact (far _ (by omega)).trans ((key _ hrl (n1 _ (.inr (by omega)))).trans h.rbox)
  · have hk : ks[j]? = some k := by
      have e := h.rest
      have e1 := drop_cons hj
      rw [e] at e1
      have := congrArg (·[0]?) e1
      simpa using this
    have t1 : (ks.map Kv.tn).take (j + 1) = (ks.map Kv.tn).take j ++ [k.tn] := take_snoc (by rw [List.getElem?_map, hk]; rfl)
    have t2 : ((ms.set j ⟨k.x, F, k.a, k.c⟩).map Kv.tn).take (j + 1) = (ms.map Kv.tn).take j ++ [(k.x, F)] := by
      rw [take_snoc (x := (k.x, F)) (by rw [List.getElem?_map, List.getElem?_set_self hjl]; rfl), ← List.map_take, ← List.map_take, List.take_set_of_le (Nat.le_refl _)]
    rw [t1, t2]
    exact h.done.snoc hset
  · have e := h.rest
    rw [List.drop_set_of_lt (by omega)]
    have := congrArg (List.drop 1) e
    simpa [List.drop_drop] using this

set_option maxRecDepth 100000 in
set_option maxHeartbeats 2000000 in
theorem keep_any (S : Option Addr) (n cap : Nat) (l : List Sym) (f : Int) (ks : List Kv) (g c B : Nat) (A : Bl) (w : World) (hS : SigLow B w S n l) (hB : B ≤ w.heap.size) (hA : ∀ q, A q → B ≤ q) (hgB : B ≤ g) (hg : ¬ A g) (hrow : RowL w g c ks) (hks : GL LoosE w ks A) (hsz : sizes (ks.map Kv.tn) ≤ 1048576) (hc : c ≤ maxLen) :
    Calls Tryz.prog 101 #[.agg (headV S n cap l f), .slice (some ⟨g, 0, none⟩) ks.length c] w fun e w' => ∃ k : Kv, e = .returned (.agg #[.string k.x.1, .int .i64 k.x.2, .slice k.a (lenF k.l) k.c]) ∧ (∃ rs', All2 (SetR (sgOf l)) (ks.map Kv.tn) rs' ∧ k.tn = ((noB, f), mkF rs')) ∧ LoosE w' (fun q => (A q ∨ q = g) ∨ w.heap.size ≤ q) k ∧ Turned (fun q => A q ∨ q = g) w w' := by
  have HS : Hid (SigLow B w S n l) := hS
  have HA : Hid (∀ q, A q → B ≤ q) := hA
  have HG : Hid (¬ A g) := hg
  have HR : Hid (RowL w g c ks) := hrow
  have HKS : Hid (GL LoosE w ks A) := hks
  have hlen : ks.length ≤ 1048576 := by have := psizes_len (ks.map Kv.tn); rw [List.length_map] at this; omega
  have hmax : maxLen = 9223372036854775807 := rfl
  have hlc := hrow.len
  have hglt := hrow.lt
  clear hS hA hrow hks hsz hg
  unfold headV
  obtain ⟨kd, hkd⟩ : ∃ kd, kindK l f = kd := ⟨_, rfl⟩
  obtain ⟨un, hun⟩ : ∃ un, unitI l f = un := ⟨_, rfl⟩
  obtain ⟨uo, huo⟩ : ∃ uo, unitOk l f = uo := ⟨_, rfl⟩
  rw [hkd, hun, huo]
  clear hkd hun huo
  have ST0 : Hid (KeepSt (sgOf l) A w g c #[.slice S n cap, .int .i64 f, .int .i64 kd, .int .i64 un, .bool uo] ks 0 ks ((w.alloc (.cells #[.slice S n cap, .int .i64 f, .int .i64 kd, .int .i64 un, .bool uo] 99)).alloc (.cells #[.string ⟨#[]⟩, .int .i64 0, .slice none 0 0] 26))) := by
    have hb0 : Below w.heap.size w ((w.alloc (.cells #[.slice S n cap, .int .i64 f, .int .i64 kd, .int .i64 un, .bool uo] 99)).alloc (.cells #[.string ⟨#[]⟩, .int .i64 0, .slice none 0 0] 26)) := ((Below.refl _ w).alloc (Nat.le_refl _) _).alloc (by simp) _
    refine ⟨rfl, HR.out.keep (hb0.block g hglt), (HKS.out.within loosE).keep loosE (fun q _ hq => hb0.block q hq), Turned.of_below hb0 _, (BoxK.new w 99 _).below ((Below.refl _ _).alloc (Nat.le_refl _) _), ?_, trivial, rfl⟩
    have := World.alloc_heap_new (w.alloc (.cells #[.slice S n cap, .int .i64 f, .int .i64 kd, .int .i64 un, .bool uo] 99)) (.cells #[.string ⟨#[]⟩, .int .i64 0, .slice none 0 0] 26)
    rw [World.size_alloc] at this
    exact this
  go_enter Tryz.func101, Tryz.ntmps101
  go_wp2
  go_loopw [5, 6, 9] (fun _ _ i wr => ∃ (j : Nat) (ms : List Kv), j ≤ ks.length ∧ i = .int .i64 j ∧ KeepSt (sgOf l) A w g c #[.slice S n cap, .int .i64 f, .int .i64 kd, .int .i64 un, .bool uo] ks j ms wr) (fun _ _ i _ => ks.length - (intOf i).toNat)
  case atStart => exact ⟨0, ks, Nat.zero_le _, rfl, ST0.out⟩
  case round =>
    obtain ⟨j, ms, hj, rfl, hst⟩ := hrel
    have ST : Hid (KeepSt (sgOf l) A w g c #[.slice S n cap, .int .i64 f, .int .i64 kd, .int .i64 un, .bool uo] ks j ms wr) := hst
    clear hst ST0
    by_cases hlt : j < ks.length
    · obtain ⟨kj, hkj⟩ : ∃ kj, ms[j]? = some kj := ⟨_, List.getElem?_eq_getElem (by rw [ST.out.len]; exact hlt)⟩
      obtain ⟨bb, oo, e0, p0, p1, p2⟩ := ST.out.row.at_.cells3 hkj
      cases e0
      rw [Nat.zero_add] at p0 p1 p2
      obtain ⟨A1, A2, a1, a2, e1, g2⟩ := gl_set ST.out.gl hkj
      have HKJ := hidK hkj
      have HA1 := hidK a1
      have HA2 := hidK a2
      have HE1 := hidK e1
      have HG2 := hidK g2
      have hb1 : Below wr.heap.size wr (wr.alloc (.cells #[.string kj.x.1, .int .i64 kj.x.2, .slice kj.a (lenF kj.l) kj.c] 26)) := (Below.refl _ _).alloc (Nat.le_refl _) _
      have HB1 := hidK hb1
      have hl2 := ST.out.turned.size
      have hfb := ST.out.fbox.lt
      have q0 : (wr.alloc (.cells #[.string kj.x.1, .int .i64 kj.x.2, .slice kj.a (lenF kj.l) kj.c] 26)).cell? ⟨w.heap.size, 0, none⟩ = some (.slice S n cap) := (ST.out.fbox.below hb1).c 0
      have HSE : Hid (Calls Tryz.prog 42 #[.slice S n cap, .agg #[.string kj.x.1, .int .i64 kj.x.2, .slice kj.a (lenF kj.l) kj.c]] (wr.alloc (.cells #[.string kj.x.1, .int .i64 kj.x.2, .slice kj.a (lenF kj.l) kj.c] 26)) fun e w' => ∃ F, e = .returned (.agg #[.string kj.x.1, .int .i64 kj.x.2, .slice kj.a (lenF F) kj.c]) ∧ lenF F = lenF kj.l ∧ SetR (sgOf l) kj.tn (kj.x, F) ∧ LoosE w' A1 ⟨kj.x, F, kj.a, kj.c⟩ ∧ Turned A1 (wr.alloc (.cells #[.string kj.x.1, .int .i64 kj.x.2, .slice kj.a (lenF kj.l) kj.c] 26)) w') :=
        settle_anyK S n cap l kj A1 _ (HS.out _ ((ST.out.turned.below (fun q hq => by rcases hq with hq | rfl; exact HA.out q hq; exact hgB) hB).trans (hb1.mono (by omega)))) (loosE.keep (fun q _ hq => hb1.block q hq) e1)
      have HROW : Hid (∀ w3, Turned A1 (wr.alloc (.cells #[.string kj.x.1, .int .i64 kj.x.2, .slice kj.a (lenF kj.l) kj.c] 26)) w3 → RowL w3 g c ms) := fun w3 ht => ST.out.row.keep ((ht.block g (by simp; omega) (fun h' => HG.out (HA1.out g h').1)).trans (hb1.block g (by omega)))
      clear hkj a1 a2 e1 g2 hb1
      go_wp2_with (first
        | (go_at_call 42; refine HSE.out.mono ?_; rintro e w3 ⟨F, rfl, hF, hset, hE3, ht3⟩; have HF3 := hidK hF; have HST := hidK hset; have HE3 := hidK hE3; have HT3 := hidK ht3; obtain ⟨u0, v0⟩ := (HROW.out w3 ht3).cell (i := j * 3) (by omega); obtain ⟨u1, v1⟩ := (HROW.out w3 ht3).cell (i := j * 3 + 1) (by omega); obtain ⟨u2, v2⟩ := (HROW.out w3 ht3).cell (i := j * 3 + 2) (by omega); have f0 := (HROW.out w3 ht3).frozen (j * 3); have f1 := (HROW.out w3 ht3).frozen (j * 3 + 1); have f2 := (HROW.out w3 ht3).frozen (j * 3 + 2); clear hF hset hE3 ht3 p0 p1 p2 q0)
        | fail)
      go_roundw
      case rel => exact ⟨j + 1, _, by omega, by go_num, ST.out.step HG.out hglt HKJ.out HA1.out HA2.out HG2.out HB1.out HT3.out HE3.out HST.out⟩
      case measure => simp [intOf]; omega
    · have ej : j = ks.length := by omega
      have c1 : wr.cell? ⟨w.heap.size, 1, none⟩ = some (.int .i64 f) := ST.out.fbox.c 1
      have X2 := ST.out.rbox
      have r0 := X2.c0; have r1 := X2.c1; have r2 := X2.c2
      have g0 := X2.f (k := 0); have g1 := X2.f (k := 1); have g2 := X2.f (k := 2)
      clear X2
      go_wp2
      refine bodyPost_ret (results_cell_row rfl _ _ (w.heap.size + 1) 26 #[.string ⟨#[]⟩, .int .i64 f, .slice (some ⟨g, 0, none⟩) ks.length c] (0, 0) _ rfl (ST.out.rbox.all (x := (⟨#[]⟩, f)) _) Tryz.underlying26 rfl Tryz.size26) rfl ?_
      have hml := ST.out.len
      have hT := ST.out.turned
      obtain ⟨cur, h1, h2, h3⟩ := ST.out.row.row
      refine ⟨⟨(noB, f), mkF (ms.map Kv.tn), some ⟨g, 0, none⟩, c⟩, by rw [len_mk, List.length_map, hml]; rfl, ⟨ms.map Kv.tn, ?_, rfl⟩, ?_, ?_⟩
      · have := ST.out.done
        rwa [ej, List.take_of_length_le (by simp), List.take_of_length_le (by simp [hml])] at this
      · refine loosE.mono (A := fun q => A q ∨ q = g) (fun q hq => .inl hq) ?_
        refine LoosE.make (by show noB.size ≤ maxLen; decide) (.inr rfl) ((sets_far (by omega) _ _ _).trans h1) h2 hc (by omega) (by omega) h3 ?_
        refine ((ST.out.gl.weak (E' := SepE) (fun _ _ h => h.1)).keep sepE (fun q hq _ => sets_far (by omega) _ _ _)).mono (fun q hq => ⟨.inl hq.1, fun e => HG.out (e ▸ hq.1)⟩)
      · exact ⟨hT.os, hT.tape, hT.output, by have := hT.size; simp; omega, fun q hq hn => (sets_far (by omega) _ _ _).trans (hT.block q hq hn)⟩
end Go.Proofs.YtokbgbbkopmngaaGreat
/- What slices.DeleteFunc makes of a row of loose forms by isUnit of package canon: the units are gone. -/
namespace Go.Proofs.YtokbgbbkopmngaaGreat
open Go.RowKit Go.Deep

set_option maxRecDepth 100000 in
theorem run_clear3 (w : World) (g o n c : Nat) (cur : Array Value) (hg : w.heap[g]? = some (Obj.cells cur 26 (0, 0))) (hn : 0 < n) (hsz : o + n * 3 ≤ cur.size) :
    ∃ cur' : Array Value, (∀ ty, (Builtin.clear_ #[24] ty #[.slice (some ⟨g, o, none⟩) n c]).run Tryz.prog w = .ok (.tuple #[]) (w.setRow g cur')) ∧ cur'.size = cur.size ∧ ∀ j : Nat, j < o → cur'[j]? = cur[j]? := by
  have hz : ∀ w, (zeroValue 26).run Tryz.prog w = .ok (.agg #[.string ⟨#[]⟩, .int .i64 0, .slice none 0 0]) w := Tryz.zeroValue26
  obtain ⟨zs, hzs⟩ : ∃ zs, (Builtin.zeroCells (Value.agg #[.string ⟨#[]⟩, .int .i64 0, .slice none 0 0]).cells n).toList = zs := ⟨_, rfl⟩
  have hl : zs.length = n * 3 := by rw [← hzs]; simp [Builtin.zeroCells, Value.cells]
  have h1 : ∀ v ∈ zs, v.oneCell' = true := by
    intro v hv
    rw [← hzs] at hv
    simp only [Builtin.zeroCells, Value.cells, Array.toList_map, List.mem_map] at hv
    obtain ⟨i, _, rfl⟩ := hv
    have : i % 3 = 0 ∨ i % 3 = 1 ∨ i % 3 = 2 := by omega
    show (#[Value.string ⟨#[]⟩, .int .i64 0, .slice none 0 0][i % 3]!).oneCell' = true
    rcases this with e | e | e <;> rw [e] <;> rfl
  have hst := run_storeCells_at (P := Tryz.prog) g o 26 zs 0 cur w hg (by rw [hl]; omega) h1
  simp only [Nat.add_zero] at hst
  refine ⟨(cur.toList.take o ++ zs ++ cur.toList.drop (o + zs.length)).toArray, fun ty => ?_, ?_, fun j hj => ?_⟩
  · obtain ⟨m, rfl⟩ : ∃ m, n = m + 1 := ⟨n - 1, by omega⟩
    simp [Builtin.clear_, run_underlying Tryz.underlying24, hz, hzs, hst]
  · simp; omega
  · simp only [List.getElem?_toArray, List.append_assoc]
    rw [List.getElem?_append_left (by simp; omega), List.getElem?_take_of_lt hj, Array.getElem?_toList]

set_option maxRecDepth 100000 in
set_option maxHeartbeats 1000000 in
theorem index_any (S : Option Addr) (n cap : Nat) (l : List Sym) (f : Int) (ks : List Kv) (g c : Nat) (A : Bl) (w : World) (hrow : RowL w g c ks) (hks : GL LoosE w ks A) (hlen : ks.length ≤ 1048576) :
    Calls Tryz.prog 119 #[.slice (some ⟨g, 0, none⟩) ks.length c, .func (.func 113) #[.agg (headV S n cap l f)] #[]] w fun e w' => Below w.heap.size w w' ∧ ((∃ j : Nat, ∃ k, ks[j]? = some k ∧ isUnB l f k.tn = true ∧ e = .returned (.int .i64 j) ∧ ∀ m ∈ ks.take j, isUnB l f m.tn = false) ∨ (e = .returned (.int .i64 (-1)) ∧ ∀ m ∈ ks, isUnB l f m.tn = false)) := by
  have HR := hidK hrow
  have HKS := hidK hks
  clear hrow hks
  unfold headV
  obtain ⟨kd, hkd⟩ : ∃ kd, kindK l f = kd := ⟨_, rfl⟩
  rw [hkd]
  clear hkd
  go_enter Tryz.func119, Tryz.ntmps119
  go_wp2
  go_loopw [4, 5, 8] (fun _ _ i wr => ∃ j : Nat, j ≤ ks.length ∧ i = .int .i64 j ∧ Below w.heap.size w wr ∧ ∀ m ∈ ks.take j, isUnB l f m.tn = false) (fun _ _ i _ => ks.length - (intOf i).toNat)
  case atStart => exact ⟨0, Nat.zero_le _, rfl, Below.refl _ _, by simp⟩
  case round =>
    obtain ⟨j, hj, rfl, hb, hno⟩ := hrel
    have HB := hidK hb
    have HNO := hidK hno
    clear hno
    by_cases hlt : j < ks.length
    · obtain ⟨kj, hkj⟩ : ∃ kj, ks[j]? = some kj := ⟨_, List.getElem?_eq_getElem hlt⟩
      obtain ⟨bb, oo, e0, p0, p1, p2⟩ := (HR.out.keep (hb.block g HR.out.lt)).at_.cells3 hkj
      cases e0
      rw [Nat.zero_add] at p0 p1 p2
      obtain ⟨A1, _, hE⟩ := HKS.out.mem (List.mem_of_getElem? hkj)
      have HT : TmAt wr kj.x kj.a kj.c kj.l := (SepTm.tm hE.1).below hb
      have hC := isUnit_any S n cap f kd l kj.tn kj.a kj.c wr HT
      have HKJ := hidK hkj
      have HC : Hid (Calls Tryz.prog 113 #[.agg #[.slice S n cap, .int .i64 f, .int .i64 kd, .int .i64 (unitI l f), .bool (unitOk l f)], .agg #[.string kj.x.1, .int .i64 kj.x.2, .slice kj.a (lenF kj.l) kj.c]] wr fun e w' => e = .returned (.bool (isUnB l f kj.tn)) ∧ Below wr.heap.size wr w') := hC
      clear hkj hE HT hC hb
      cases hu : isUnB l f kj.tn
      · rw [hu] at HC
        go_wp2_with (go_at_call 113; refine HC.out.mono ?_; rintro e w2 ⟨rfl, hb2⟩; have HB2 : Hid (Below w.heap.size w w2) := HB.out.trans (hb2.mono HB.out.size); clear hb2)
        go_roundw
        case rel => exact ⟨j + 1, by omega, by go_num, HB2.out, fun m hm => by
          rw [take_snoc HKJ.out] at hm
          rcases List.mem_append.1 hm with h | h
          · exact HNO.out m h
          · rw [List.mem_singleton] at h; rw [h]; exact hu⟩
        case measure => simp [intOf]; omega
      · rw [hu] at HC
        go_wp2_with (go_at_call 113; refine HC.out.mono ?_; rintro e w2 ⟨rfl, hb2⟩; have HB2 : Hid (Below w.heap.size w w2) := HB.out.trans (hb2.mono HB.out.size); clear hb2)
        go_ret
        exact ⟨HB2.out, .inl ⟨j, kj, HKJ.out, hu, rfl, HNO.out⟩⟩
    · have ej : j = ks.length := by omega
      go_wp2
      go_ret
      refine ⟨HB.out, .inr ⟨rfl, ?_⟩⟩
      have := HNO.out
      rwa [ej, List.take_length] at this

/-- Where DeleteFunc stands: i terms are kept of the first j. -/
structure DelSt (l : List Sym) (f : Int) (w : World) (g c : Nat) (ks : List Kv) (i j : Nat) (ms : List Kv) (W : World) : Prop where
  len : ms.length = ks.length
  row : RowL W g c ms
  turned : Turned (fun q => q = g) w W
  lt : i < j
  done : ms.take i = (ks.take j).filter (fun k => !isUnB l f k.tn)
  rest : ms.drop j = ks.drop j

theorem DelSt.kid {l : List Sym} {f : Int} {w W : World} {g c : Nat} {ks ms : List Kv} {i j : Nat} (h : DelSt l f w g c ks i j ms W) {k : Kv} (hk : ks[j]? = some k) : ms[j]? = some k := by
  have e1 := drop_cons hk
  rw [← h.rest] at e1
  have := congrArg (·[0]?) e1
  simpa using this
theorem filter_snoc (l : List Sym) (f : Int) {ks : List Kv} {j : Nat} {k : Kv} (hk : ks[j]? = some k) : (ks.take (j + 1)).filter (fun k => !isUnB l f k.tn) = (ks.take j).filter (fun k => !isUnB l f k.tn) ++ if isUnB l f k.tn then [] else [k] := by
  rw [take_snoc hk, List.filter_append]
  cases h : isUnB l f k.tn <;> simp [h]
theorem drop_more {α : Type} {a b : List α} {j : Nat} (h : a.drop j = b.drop j) : a.drop (j + 1) = b.drop (j + 1) := by
  have := congrArg (List.drop 1) h
  simpa [List.drop_drop] using this
theorem DelSt.skip {l : List Sym} {f : Int} {w W W' : World} {g c : Nat} {ks ms : List Kv} {i j : Nat} (h : DelSt l f w g c ks i j ms W) {k : Kv} (hk : ks[j]? = some k) (hu : isUnB l f k.tn = true) (hb : Below W.heap.size W W') : DelSt l f w g c ks i (j + 1) ms W' :=
  ⟨h.len, h.row.keep (hb.block g h.row.lt), h.turned.trans (Turned.of_below hb _), by have := h.lt; omega, by rw [filter_snoc l f hk, hu, h.done]; simp, drop_more h.rest⟩
theorem DelSt.put {l : List Sym} {f : Int} {w W W' : World} {g c : Nat} {ks ms : List Kv} {i j : Nat} (h : DelSt l f w g c ks i j ms W) {k : Kv} (hk : ks[j]? = some k) (hu : isUnB l f k.tn = false) (hb : Below W.heap.size W W') :
    DelSt l f w g c ks (i + 1) (j + 1) (ms.set i k) (((W'.setCell ⟨g, i * 3, none⟩ (.string k.x.1)).setCell ⟨g, i * 3 + 1, none⟩ (.int .i64 k.x.2)).setCell ⟨g, i * 3 + 2, none⟩ (.slice k.a (lenF k.l) k.c)) := by
  have hjl : j < ks.length := (List.getElem?_eq_some_iff.1 hk).1
  have hij := h.lt
  have hil : i < ms.length := by rw [h.len]; omega
  refine ⟨by rw [List.length_set]; exact h.len, RowL.set (h.row.keep (hb.block g h.row.lt)) hil k, ?_, by omega, ?_, ?_⟩
  · have hT := h.turned.trans (Turned.of_below hb _)
    exact ⟨hT.os, hT.tape, hT.output, by have := hT.size; simpa using this, fun q hq hn => (sets_far3 hn _ _ _).trans (hT.block q hq hn)⟩
  · rw [filter_snoc l f hk, hu, take_snoc (x := k) (by rw [List.getElem?_set_self hil]), List.take_set_of_le (Nat.le_refl _), h.done]
    simp
  · rw [List.drop_set_of_lt (by omega)]
    exact drop_more h.rest

set_option maxRecDepth 100000 in
set_option maxHeartbeats 2000000 in
theorem delete_any (S : Option Addr) (n cap : Nat) (l : List Sym) (f : Int) (ks : List Kv) (g c : Nat) (A : Bl) (w : World) (hrow : RowL w g c ks) (hks : GL LoosE w ks A) (hg : ¬ A g) (hlen : ks.length ≤ 1048576) (hc : c ≤ maxLen) :
    Calls Tryz.prog 112 #[.slice (some ⟨g, 0, none⟩) ks.length c, .func (.func 113) #[.agg (headV S n cap l f)] #[]] w fun e w' => e = .returned (.slice (some ⟨g, 0, none⟩) (ks.filter fun k => !isUnB l f k.tn).length c) ∧ RowL w' g c (ks.filter fun k => !isUnB l f k.tn) ∧ Turned (fun q => q = g) w w' := by
  have HI := hidK (index_any S n cap l f ks g c A w hrow hks hlen)
  have HR := hidK hrow
  have HKS := hidK hks
  have HG := hidK hg
  have hmax : maxLen = 9223372036854775807 := rfl
  have hlc := hrow.len
  have hglt := hrow.lt
  clear hrow hks hg
  unfold headV at HI ⊢
  obtain ⟨kd, hkd⟩ : ∃ kd, kindK l f = kd := ⟨_, rfl⟩
  rw [hkd] at HI ⊢
  clear hkd
  go_enter Tryz.func112, Tryz.ntmps112
  go_wp2_with fail
  refine HI.out.mono ?_
  rintro e w1 ⟨hb1, (⟨i, ki, hki, hui, rfl, hno⟩ | ⟨rfl, hno⟩)⟩
  · have hil : i < ks.length := (List.getElem?_eq_some_iff.1 hki).1
    have hne : ((i : Int) == -1) = false := by simp
    have ST0 : Hid (DelSt l f w g c ks i (i + 1) ks w1) := ⟨rfl, HR.out.keep (hb1.block g hglt), Turned.of_below hb1 _, by omega, by
      rw [filter_snoc l f hki, hui]
      simp only [if_true, List.append_nil]
      exact (List.filter_eq_self.2 (fun k hk => by rw [hno k hk]; rfl)).symm, rfl⟩
    clear hki hui hno hb1 HI
    go_wp2
    go_loopw [5, 6, 7] (fun iv jv _ wr => ∃ (i j : Nat) (ms : List Kv), j ≤ ks.length ∧ iv = .int .i64 i ∧ jv = .int .i64 j ∧ DelSt l f w g c ks i j ms wr) (fun _ jv _ _ => ks.length - (intOf jv).toNat)
    case atStart => exact ⟨i, i + 1, ks, by omega, rfl, by go_num, ST0.out⟩
    case round =>
      obtain ⟨i, j, ms, hj, rfl, rfl, hst⟩ := hrel
      have ST := hidK hst
      have hij := hst.lt
      clear hst ST0 hne hil
      by_cases hlt : j < ks.length
      · obtain ⟨kj, hkj⟩ : ∃ kj, ks[j]? = some kj := ⟨_, List.getElem?_eq_getElem hlt⟩
        obtain ⟨bb, oo, e0, p0, p1, p2⟩ := ST.out.row.at_.cells3 (ST.out.kid hkj)
        cases e0
        rw [Nat.zero_add] at p0 p1 p2
        have hml := ST.out.len
        obtain ⟨A1, hA1, hE⟩ := HKS.out.mem (List.mem_of_getElem? hkj)
        have hb1 : Below wr.heap.size wr (wr.alloc (.cells #[.string kj.x.1, .int .i64 kj.x.2, .slice kj.a (lenF kj.l) kj.c] 26)) := (Below.refl _ _).alloc (Nat.le_refl _) _
        have HT : TmAt wr kj.x kj.a kj.c kj.l := SepTm.tm (SepTm.keep (A := A1) (fun q hq hlt => ST.out.turned.block q hlt (fun e => HG.out (hA1 g (e ▸ hq)))) hE.1)
        have hC := isUnit_any S n cap f kd l kj.tn kj.a kj.c _ (HT.below hb1)
        have HKJ := hidK hkj
        have HB1 := hidK hb1
        have HC : Hid (Calls Tryz.prog 113 #[.agg #[.slice S n cap, .int .i64 f, .int .i64 kd, .int .i64 (unitI l f), .bool (unitOk l f)], .agg #[.string kj.x.1, .int .i64 kj.x.2, .slice kj.a (lenF kj.l) kj.c]] (wr.alloc (.cells #[.string kj.x.1, .int .i64 kj.x.2, .slice kj.a (lenF kj.l) kj.c] 26)) fun e w' => e = .returned (.bool (isUnB l f kj.tn)) ∧ Below (wr.alloc (.cells #[.string kj.x.1, .int .i64 kj.x.2, .slice kj.a (lenF kj.l) kj.c] 26)).heap.size (wr.alloc (.cells #[.string kj.x.1, .int .i64 kj.x.2, .slice kj.a (lenF kj.l) kj.c] 26)) w') := hC
        clear hkj hE HT hC hb1 hA1
        cases hu : isUnB l f kj.tn
        · rw [hu] at HC
          have arm : Hid (∀ w2, Below (wr.alloc (.cells #[.string kj.x.1, .int .i64 kj.x.2, .slice kj.a (lenF kj.l) kj.c] 26)).heap.size (wr.alloc (.cells #[.string kj.x.1, .int .i64 kj.x.2, .slice kj.a (lenF kj.l) kj.c] 26)) w2 → Below wr.heap.size wr w2 ∧ XBox w2 wr.heap.size kj.x (.slice kj.a (lenF kj.l) kj.c) ∧ RowL w2 g c ms) := fun w2 hb2 => ⟨HB1.out.trans (hb2.mono HB1.out.size), XBox.below (World.alloc_heap_new wr _) hb2, ST.out.row.keep ((hb2.block g (by have := ST.out.row.lt; simp; omega)).trans (HB1.out.block g ST.out.row.lt))⟩
          go_wp2_with (go_at_call 113; refine HC.out.mono ?_; rintro e w2 ⟨rfl, hb2⟩; have ha := arm.out w2 hb2; have HB2 := hidK ha.1; have x0 := ha.2.1.c0; have x1 := ha.2.1.c1; have x2 := ha.2.1.c2; obtain ⟨u0, v0⟩ := ha.2.2.cell (i := i * 3) (by omega); obtain ⟨u1, v1⟩ := ha.2.2.cell (i := i * 3 + 1) (by omega); obtain ⟨u2, v2⟩ := ha.2.2.cell (i := i * 3 + 2) (by omega); have f0 := ha.2.2.frozen (i * 3); have f1 := ha.2.2.frozen (i * 3 + 1); have f2 := ha.2.2.frozen (i * 3 + 2); clear hb2 ha p0 p1 p2)
          go_roundw
          case rel => exact ⟨i + 1, j + 1, _, by omega, by go_num, by go_num, ST.out.put HKJ.out hu HB2.out⟩
          case measure => simp [intOf]; omega
        · rw [hu] at HC
          go_wp2_with (go_at_call 113; refine HC.out.mono ?_; rintro e w2 ⟨rfl, hb2⟩; have HB2 := hidK (HB1.out.trans (hb2.mono HB1.out.size)); clear hb2)
          go_roundw
          case rel => exact ⟨i, j + 1, ms, by omega, rfl, by go_num, ST.out.skip HKJ.out hu HB2.out⟩
          case measure => simp [intOf]; omega
      · have ej : j = ks.length := by omega
        subst ej
        have hml := ST.out.len
        obtain ⟨cur, h1, h2, h3⟩ := ST.out.row.row
        obtain ⟨cur', hcl, hs', hc'⟩ := run_clear3 wr g (i * 3) (ks.length - i) (c - i) cur h1 (by omega) (by omega)
        have H1 := hidK h1
        have H2 := hidK h2
        have H3 := hidK h3
        have HS' := hidK hs'
        have HC' := hidK hc'
        clear h1 h2 h3 hs' hc'
        go_wp2
        go_ret
        have hd := ST.out.done
        rw [List.take_length] at hd
        have hdl : (ks.filter fun k => !isUnB l f k.tn).length = i := by rw [← hd, List.length_take]; omega
        have hT := ST.out.turned
        refine ⟨by rw [hdl]; rfl, ?_, hT.os, hT.tape, hT.output, by have := hT.size; simpa [World.setRow] using this, fun q hq hn => ?_⟩
        · refine ⟨⟨cur', setRow_heap wr g cur cur' 26 (0, 0) H1.out, HS'.out.trans H2.out, fun j u hu => ?_⟩, by rw [hdl]; omega⟩
          rw [← hd, kvCells_take] at hu
          have hj : j < i * 3 := by
            rcases Nat.lt_or_ge j (i * 3) with h | h
            · exact h
            · rw [List.getElem?_eq_none (by rw [List.length_take]; omega)] at hu; cases hu
          rw [List.getElem?_take_of_lt hj] at hu
          rw [HC'.out j hj]
          exact H3.out j u hu
        · refine Eq.trans ?_ (hT.block q hq hn)
          simp only [World.setRow, Array.getElem?_modify]
          rw [if_neg (fun e => hn e.symm)]
  · have hall : ks.filter (fun k => !isUnB l f k.tn) = ks := List.filter_eq_self.2 (fun k hk => by rw [hno k hk]; rfl)
    have HALL := hidK hall
    have HB1 := hidK hb1
    clear hall hno hb1 HI
    go_wp2
    go_ret
    rw [HALL.out]
    exact ⟨rfl, HR.out.keep (HB1.out.block g hglt), Turned.of_below HB1.out _⟩
end Go.Proofs.YtokbgbbkopmngaaGreat
/- What unite of package canon makes of loose forms: units left out, the others laid one behind the other. -/
namespace Go.Proofs.YtokbgbbkopmngaaGreat
open Go.RowKit Go.Deep

theorem map_filter_un (l : List Sym) (f : Int) : ∀ ks : List Kv, (ks.filter fun k => !isUnB l f k.tn).map Kv.tn = (ks.map Kv.tn).filter fun r => !isUn (sgOf l) f r
  | [] => rfl
  | k :: r => by
    rw [List.map_cons, List.filter_cons, List.filter_cons, isUnB_eq]
    cases h : isUn (sgOf l) f k.tn <;> simp [map_filter_un l f r]
theorem loosE_const (w : World) (A : Bl) (u : Int) : LoosE w A ⟨(noB, u), .nil, none, 0⟩ := ⟨⟨⟨by show noB.size ≤ maxLen; decide, Nat.le_refl _, Nat.zero_le _, by simp [lenF]⟩, .inl rfl⟩, fun _ => .inl ⟨rfl, rfl, rfl⟩⟩

set_option maxRecDepth 100000 in
set_option maxHeartbeats 2000000 in
theorem unite_any (S : Option Addr) (n cap : Nat) (l : List Sym) (f : Int) (ks : List Kv) (g c B : Nat) (A : Bl) (w : World) (hS : SigLow B w S n l) (hB : B ≤ w.heap.size) (hA : ∀ q, A q → B ≤ q) (hgB : B ≤ g) (hg : ¬ A g) (hrow : RowL w g c ks) (hks : GL LoosE w ks A) (hk : kindK l f ≠ 1) (hsz : sizes (ks.map Kv.tn) ≤ 1048576) (hc : c ≤ maxLen) :
    Calls Tryz.prog 103 #[.agg (headV S n cap l f), .slice (some ⟨g, 0, none⟩) ks.length c] w fun e w' => ∃ k : Kv, e = .returned (.agg #[.string k.x.1, .int .i64 k.x.2, .slice k.a (lenF k.l) k.c]) ∧
      ((((ks.map Kv.tn).filter fun r => !isUn (sgOf l) f r) = [] ∧ k.tn = constT (unitI l f)) ∨ (((ks.map Kv.tn).filter fun r => !isUn (sgOf l) f r) ≠ [] ∧ FlatOut (sgOf l) f ((ks.map Kv.tn).filter fun r => !isUn (sgOf l) f r) k.tn)) ∧
      LoosE w' (fun q => (A q ∨ q = g) ∨ w.heap.size ≤ q) k ∧ Turned (fun q => A q ∨ q = g) w w' := by
  have HS := hidK hS
  have HA := hidK hA
  have HG := hidK hg
  have HR := hidK hrow
  have HKS : Hid (GL LoosE w ks (fun q => A q ∧ q < w.heap.size)) := hks.within loosE
  have HSZ := hidK hsz
  have HK := hidK hk
  have hlen : ks.length ≤ 1048576 := by have := psizes_len (ks.map Kv.tn); rw [List.length_map] at this; omega
  have hmax : maxLen = 9223372036854775807 := rfl
  have hglt := hrow.lt
  obtain ⟨ms, hms⟩ : ∃ ms, (ks.filter fun k => !isUnB l f k.tn) = ms := ⟨_, rfl⟩
  have HMS := hidK hms
  have HMM : Hid (ms.map Kv.tn = (ks.map Kv.tn).filter fun r => !isUn (sgOf l) f r) := by show _ = _; rw [← hms]; exact map_filter_un l f ks
  have hmc : ms.length ≤ c := by rw [← hms]; exact Nat.le_trans (List.length_filter_le _ _) hrow.len
  have hml : ms.length ≤ 1048576 := by rw [← hms]; exact Nat.le_trans (List.length_filter_le _ _) hlen
  clear hS hA hg hrow hks hsz hk hms
  obtain ⟨hv, hhv⟩ : ∃ hv, headV S n cap l f = hv := ⟨_, rfl⟩
  have hv' := hhv
  unfold headV at hv'
  have HB0 : Hid (Below w.heap.size w ((w.alloc (.cells hv 99)).alloc (.cells #[.string ⟨#[]⟩, .int .i64 0, .slice none 0 0] 26))) := ((Below.refl _ w).alloc (Nat.le_refl _) _).alloc (by simp) _
  have HF0 : Hid (BoxK ((w.alloc (.cells hv 99)).alloc (.cells #[.string ⟨#[]⟩, .int .i64 0, .slice none 0 0] 26)) w.heap.size 99 hv) := (BoxK.new w 99 _).below ((Below.refl _ _).alloc (Nat.le_refl _) _)
  have HX0 : Hid (XBox ((w.alloc (.cells hv 99)).alloc (.cells #[.string ⟨#[]⟩, .int .i64 0, .slice none 0 0] 26)) (w.heap.size + 1) (⟨#[]⟩, 0) (.slice none 0 0)) := by
    have := World.alloc_heap_new (w.alloc (.cells hv 99)) (.cells #[.string ⟨#[]⟩, .int .i64 0, .slice none 0 0] 26)
    rw [World.size_alloc] at this
    exact this
  have HD : Hid (Calls Tryz.prog 112 #[.slice (some ⟨g, 0, none⟩) ks.length c, .func (.func 113) #[.agg hv] #[]] ((w.alloc (.cells hv 99)).alloc (.cells #[.string ⟨#[]⟩, .int .i64 0, .slice none 0 0] 26)) fun e w' => e = .returned (.slice (some ⟨g, 0, none⟩) ms.length c) ∧ RowL w' g c ms ∧ Turned (fun q => q = g) ((w.alloc (.cells hv 99)).alloc (.cells #[.string ⟨#[]⟩, .int .i64 0, .slice none 0 0] 26)) w') := by
    have := delete_any S n cap l f ks g c (fun q => A q ∧ q < w.heap.size) ((w.alloc (.cells hv 99)).alloc (.cells #[.string ⟨#[]⟩, .int .i64 0, .slice none 0 0] 26)) (HR.out.keep (HB0.out.block g hglt)) (HKS.out.keep loosE (fun q _ hq => HB0.out.block q hq)) (fun h => HG.out h.1) hlen hc
    rw [HMS.out, hhv] at this
    exact this
  have arm : Hid (∀ w1, Turned (fun q => q = g) ((w.alloc (.cells hv 99)).alloc (.cells #[.string ⟨#[]⟩, .int .i64 0, .slice none 0 0] 26)) w1 → RowL w1 g c ms →
      (Turned (fun q => A q ∨ q = g) w w1 ∧ w.heap.size + 2 ≤ w1.heap.size) ∧ BoxK w1 w.heap.size 99 hv ∧ XBox w1 (w.heap.size + 1) (⟨#[]⟩, 0) (.slice none 0 0) ∧
      Calls Tryz.prog 102 #[.agg hv, .slice (some ⟨g, 0, none⟩) ms.length c] w1 fun e w' => ∃ k : Kv, e = .returned (.agg #[.string k.x.1, .int .i64 k.x.2, .slice k.a (lenF k.l) k.c]) ∧ FlatOut (sgOf l) f (ms.map Kv.tn) k.tn ∧ LoosE w' (fun q => (A q ∧ q < w.heap.size) ∨ w1.heap.size ≤ q) k ∧ Turned (fun q => A q ∧ q < w.heap.size) w1 w') := fun w1 ht hr => by
    have h1 := HF0.out.lt
    have h2 := HX0.out.lt
    have h3 := ht.size
    have hT : Turned (fun q => A q ∨ q = g) w w1 := (Turned.of_below HB0.out _).then ht (fun q _ hq => .inr hq)
    have hBl : Below B w w1 := hT.below (fun q hq => by rcases hq with h | rfl; exact HA.out q h; exact hgB) hB
    refine ⟨⟨hT, by omega⟩, (ht.block _ h1 (by omega)).trans HF0.out, (ht.block _ h2 (by omega)).trans HX0.out, ?_⟩
    have := flatten_any S n cap l f ms (some ⟨g, 0, none⟩) c B (fun q => A q ∧ q < w.heap.size) w1 (HS.out.below hBl) (Nat.le_trans hB hT.size) (fun q hq => HA.out q hq.1) (fun W hW => (hr.keep (hW.block g (by have := hr.lt; omega) (fun h => HG.out h.1))).at_) (by
      rw [← HMS.out]
      exact (HKS.out.filter _).keep loosE (fun q hq hlt => (ht.block q (by simp; omega) (fun e => HG.out (e ▸ hq.1))).trans (HB0.out.block q hlt))) HK.out (by
      rw [HMM.out]
      exact Nat.le_trans (sizes_filter _ _) HSZ.out)
    rw [hhv] at this
    exact this
  rw [hhv]
  clear hhv
  subst hv'
  go_enter Tryz.func103, Tryz.ntmps103
  go_wp2_with fail
  refine HD.out.mono ?_
  rintro e w1 ⟨rfl, hr1, ht1⟩
  obtain ⟨⟨hT, hsz1⟩, hfb, hxb, hC⟩ := arm.out w1 ht1 hr1
  have HT := hidK hT
  have HC := hidK hC
  have HX := hidK hxb
  have q0 := hfb.c 0; have q1 := hfb.c 1; have q2 := hfb.c 2; have q3 := hfb.c 3; have q4 := hfb.c 4
  have r0 := hxb.c0; have r1 := hxb.c1; have r2 := hxb.c2
  have g0 := hxb.f (k := 0); have g1 := hxb.f (k := 1); have g2 := hxb.f (k := 2)
  clear hT hC hfb hxb arm HD HF0 HX0 HB0 ht1 hr1
  by_cases h0 : ms.length = 0
  · have hm0 : ms = [] := List.length_eq_zero_iff.1 h0
    have HM0 := hidK hm0
    have hz : ((ms.length : Int) == 0) = true := by simp [h0]
    clear hm0 h0
    go_wp2
    refine bodyPost_ret (results_cell_row rfl _ _ (w.heap.size + 1) 26 #[.string ⟨#[]⟩, .int .i64 (unitI l f), .slice none 0 0] (0, 0) _ rfl (HX.out.all (x := (⟨#[]⟩, unitI l f)) _) Tryz.underlying26 rfl Tryz.size26) rfl ?_
    refine ⟨⟨(noB, unitI l f), .nil, none, 0⟩, rfl, .inl ⟨?_, rfl⟩, loosE_const _ _ _, ?_⟩
    · rw [← HMM.out, HM0.out]; rfl
    · have hT := HT.out
      exact ⟨hT.os, hT.tape, hT.output, by have := hT.size; simp; omega, fun q hq hn => (sets_far (by omega) _ _ _).trans (hT.block q hq hn)⟩
  · have HM0 := hidK h0
    have hz : ((ms.length : Int) == 0) = false := by simpa using h0
    clear h0
    go_wp2_with (go_at_call 102; refine HC.out.mono ?_; rintro e w2 ⟨k, rfl, hfl, hE, ht2⟩; have HFL := hidK hfl; have HE := hidK hE; have HT2 := hidK ht2; have hxb := HX.out; have HX2 : XBox w2 (w.heap.size + 1) (⟨#[]⟩, 0) (.slice none 0 0) := (ht2.block _ (by omega) (fun h => by have := h.2; omega)).trans hxb; have y0 := HX2.c0; have y1 := HX2.c1; have y2 := HX2.c2; have z0 := HX2.f (k := 0); have z1 := HX2.f (k := 1); have z2 := HX2.f (k := 2); have HXX := hidK HX2; clear hfl hE ht2 hxb HX2 q0 q1 q2 q3 q4 r0 r1 r2 g0 g1 g2)
    refine bodyPost_ret (results_cell_row rfl _ _ (w.heap.size + 1) 26 #[.string k.x.1, .int .i64 k.x.2, .slice k.a (lenF k.l) k.c] (0, 0) _ rfl (HXX.out.all (x := k.x) _) Tryz.underlying26 rfl Tryz.size26) rfl ?_
    refine ⟨k, rfl, .inr ⟨?_, ?_⟩, ?_, ?_⟩
    · rw [← HMM.out]
      intro e
      have := congrArg List.length e
      rw [List.length_map] at this
      exact HM0.out this
    · rw [← HMM.out]; exact HFL.out
    · refine loosE.mono (fun q hq => ?_) (loosE.keep (fun q hq _ => sets_far ?_ _ _ _) HE.out)
      · rcases hq with h | h
        · exact .inl (.inl h.1)
        · exact .inr (by omega)
      · rcases hq with h | h <;> omega
    · have hT : Turned (fun q => A q ∨ q = g) w w2 := HT.out.then HT2.out (fun q _ hq => .inl hq.1)
      exact ⟨hT.os, hT.tape, hT.output, by have := hT.size; simp; omega, fun q hq hn => (sets_far (by omega) _ _ _).trans (hT.block q hq hn)⟩
end Go.Proofs.YtokbgbbkopmngaaGreat
/- What lay of package canon makes: a symbol's term of loose forms. -/
namespace Go.Proofs.YtokbgbbkopmngaaGreat
open Go.RowKit Go.Deep

def laysV : Array Value := #[.nilFunc, .func (.func 101) #[] #[], .func (.func 102) #[] #[], .func (.func 103) #[] #[]]
theorem Tryz.size112 : (Tryz.prog.info? 112).map (·.size) = some 4 := by kernel_rfl
set_option maxRecDepth 100000 in
theorem layings_any (w : World) : Calls Tryz.prog 86 #[] w fun e w' => e = .returned (.agg laysV) ∧ Below w.heap.size w w' := by
  go_enter Tryz.func86, Tryz.ntmps86
  go_wp2
  refine bodyPost_ret (results_cell_row rfl _ _ w.heap.size 112 laysV (0, 0) _ rfl (World.alloc_heap_new w _) Tryz.underlying112 rfl Tryz.size112) rfl ?_
  exact ⟨rfl, (Below.refl _ w).alloc (Nat.le_refl _) _⟩

theorem idx1 (W : World) : (Instr.index 112 (.agg #[.nilFunc, .func (.func 101) #[] #[], .func (.func 102) #[] #[], .func (.func 103) #[] #[]]) (.int .i64 1)).run Tryz.prog W = .ok (.func (.func 101) #[] #[]) W := by kernel_rfl
theorem idx2 (W : World) : (Instr.index 112 (.agg #[.nilFunc, .func (.func 101) #[] #[], .func (.func 102) #[] #[], .func (.func 103) #[] #[]]) (.int .i64 2)).run Tryz.prog W = .ok (.func (.func 102) #[] #[]) W := by kernel_rfl
theorem idx3 (W : World) : (Instr.index 112 (.agg #[.nilFunc, .func (.func 101) #[] #[], .func (.func 102) #[] #[], .func (.func 103) #[] #[]]) (.int .i64 3)).run Tryz.prog W = .ok (.func (.func 103) #[] #[]) W := by kernel_rfl

def LooseOk (S : Option Addr) (n cap : Nat) (l : List Sym) (N : Nat) : Prop := ∀ (t : Tn) (a : Option Addr) (c : Nat) (w : World), nodesF t.2 ≤ N → SigAt w S n l → TmAt w t.1 a c t.2 →
  Calls Tryz.prog 43 #[.slice S n cap, .agg #[.string t.1.1, .int .i64 t.1.2, .slice a (lenF t.2) c]] w fun e w' => ∃ k : Kv, e = .returned (.agg #[.string k.x.1, .int .i64 k.x.2, .slice k.a (lenF k.l) k.c]) ∧ LooseR (sgOf l) (arAt l) t k.tn ∧ LoosE w' (fun q => w.heap.size ≤ q) k ∧ Below w.heap.size w w'

/-- Where lay stands before the term j. -/
structure LaySt (S : Sg) (ar : Int → Nat) (w : World) (hv : Array Value) (F : Fo) (j : Nat) (ks : List Kv) (W : World) : Prop where
  low : Below w.heap.size w W
  row : ∃ cur, W.heap[w.heap.size + 1 + 1]? = some (Obj.cells cur 26 (0, 0)) ∧ cur.size = lenF F * 3 ∧ ∀ (i : Nat) (u : Value), (kvCells ks)[i]? = some u → cur[i]? = some u
  gl : GL LoosE W ks (fun q => w.heap.size + 1 + 1 < q ∧ q < W.heap.size)
  fbox : BoxK W w.heap.size 99 hv
  rbox : XBox W (w.heap.size + 1) (⟨#[]⟩, 0) (.slice none 0 0)
  done : All2 (LooseR S ar) ((kidsL F).take j) (ks.map Kv.tn)
  len : ks.length = j
theorem LaySt.cell {S : Sg} {ar : Int → Nat} {w W : World} {hv : Array Value} {F : Fo} {j : Nat} {ks : List Kv} (h : LaySt S ar w hv F j ks W) {W' : World} (hb : Below W.heap.size W W') {i : Nat} (hi : i < lenF F * 3) : ∃ v, W'.cell? ⟨w.heap.size + 1 + 1, i, none⟩ = some v := by
  obtain ⟨cur, h1, h2, _⟩ := h.row
  have h1' := (hb.block _ (Array.getElem?_eq_some_iff.1 h1).1).trans h1
  exact ⟨cur[i]'(by omega), by rw [cell_of_row W' _ i cur 26 (0, 0) h1']; simp [show i < cur.size by omega]⟩
theorem LaySt.frozen {S : Sg} {ar : Int → Nat} {w W : World} {hv : Array Value} {F : Fo} {j : Nat} {ks : List Kv} (h : LaySt S ar w hv F j ks W) {W' : World} (hb : Below W.heap.size W W') (i : Nat) : W'.frozen? ⟨w.heap.size + 1 + 1, i, none⟩ = false := by
  obtain ⟨cur, h1, _⟩ := h.row
  have h1' := (hb.block _ (Array.getElem?_eq_some_iff.1 h1).1).trans h1
  simp [World.frozen?, h1']
theorem LaySt.step {S : Sg} {ar : Int → Nat} {w W w1 : World} {hv : Array Value} {F : Fo} {j : Nat} {ks : List Kv} {t : Tn} {kv : Kv} (h : LaySt S ar w hv F j ks W) (hb : Below W.heap.size W w1) (hE : LoosE w1 (fun q => W.heap.size ≤ q) kv) (hj : (kidsL F)[j]? = some t) (hR : LooseR S ar t kv.tn) :
    LaySt S ar w hv F (j + 1) (ks ++ [kv]) (((w1.setCell ⟨w.heap.size + 1 + 1, j * 3, none⟩ (.string kv.x.1)).setCell ⟨w.heap.size + 1 + 1, j * 3 + 1, none⟩ (.int .i64 kv.x.2)).setCell ⟨w.heap.size + 1 + 1, j * 3 + 2, none⟩ (.slice kv.a (lenF kv.l) kv.c)) := by
  obtain ⟨cur, h1, h2, h3⟩ := h.row
  have hlen := h.len
  have hjl : j < lenF F := by have := (List.getElem?_eq_some_iff.1 hj).1; rwa [kids_len] at this
  have hglt : w.heap.size + 1 + 1 < W.heap.size := (Array.getElem?_eq_some_iff.1 h1).1
  have h1' : w1.heap[w.heap.size + 1 + 1]? = some (Obj.cells cur 26 (0, 0)) := (hb.block _ hglt).trans h1
  have far : ∀ q, q ≠ w.heap.size + 1 + 1 → (((w1.setCell ⟨w.heap.size + 1 + 1, j * 3, none⟩ (.string kv.x.1)).setCell ⟨w.heap.size + 1 + 1, j * 3 + 1, none⟩ (.int .i64 kv.x.2)).setCell ⟨w.heap.size + 1 + 1, j * 3 + 2, none⟩ (.slice kv.a (lenF kv.l) kv.c)).heap[q]? = w1.heap[q]? := fun q hq => sets_far3 hq _ _ _
  have hbs := hb.size
  have hlow : Below w.heap.size w w1 := h.low.trans (hb.mono (by omega))
  refine ⟨⟨hlow.os, hlow.tape, hlow.output, by have := hlow.size; simpa using this, fun q hq => (far q (by omega)).trans (hlow.block q hq)⟩, ⟨_, block_set (block_set (block_set h1' _) _) _, by simp [h2], ?_⟩, ?_, (far _ (by omega)).trans ((hb.block _ (by omega)).trans h.fbox), (far _ (by omega)).trans ((hb.block _ (by omega)).trans h.rbox), ?_, by simp [hlen]⟩
  · intro i u hu
    rw [kvCells_snoc] at hu
    have hl := kvCells_len ks
    have hkl : kv.cells.length = 3 := rfl
    have hi : i < ks.length * 3 + 3 := by
      rcases Nat.lt_or_ge i (ks.length * 3 + 3) with h' | h'
      · exact h'
      · rw [List.getElem?_eq_none (by rw [List.length_append]; omega)] at hu; cases hu
    simp only [Array.getElem?_setIfInBounds, Array.size_setIfInBounds]
    by_cases hc : i < ks.length * 3
    · rw [List.getElem?_append_left (by omega)] at hu
      rw [if_neg (by omega), if_neg (by omega), if_neg (by omega)]
      exact h3 i u hu
    · rw [List.getElem?_append_right (by omega), hl] at hu
      have hcase : i = j * 3 ∨ i = j * 3 + 1 ∨ i = j * 3 + 2 := by omega
      rcases hcase with e | e | e
      · subst e
        rw [if_neg (by omega), if_neg (by omega), if_pos rfl, if_pos (by omega)]
        rw [show j * 3 - ks.length * 3 = 0 by omega] at hu
        simpa [Kv.cells] using hu
      · subst e
        rw [if_neg (by omega), if_pos rfl, if_pos (by omega)]
        rw [show j * 3 + 1 - ks.length * 3 = 1 by omega] at hu
        simpa [Kv.cells] using hu
      · subst e
        rw [if_pos rfl, if_pos (by omega)]
        rw [show j * 3 + 2 - ks.length * 3 = 2 by omega] at hu
        simpa [Kv.cells] using hu
  · have h5 : GL LoosE w1 ks (fun q => w.heap.size + 1 + 1 < q ∧ q < W.heap.size) := h.gl.keep loosE (fun q hq hlt => hb.block q hlt)
    have h6 := GL.snoc h5 (loosE.within hE) (fun q hq h' => by have := hq.2; have := h'.1; omega)
    have hsz : (((w1.setCell ⟨w.heap.size + 1 + 1, j * 3, none⟩ (.string kv.x.1)).setCell ⟨w.heap.size + 1 + 1, j * 3 + 1, none⟩ (.int .i64 kv.x.2)).setCell ⟨w.heap.size + 1 + 1, j * 3 + 2, none⟩ (.slice kv.a (lenF kv.l) kv.c)).heap.size = w1.heap.size := by simp
    rw [hsz]
    refine (h6.keep loosE (fun q hq _ => far q ?_)).mono (fun q hq => ?_)
    · rcases hq with hq | hq
      · have := hq.1; omega
      · have := hq.1; omega
    · rcases hq with hq | hq
      · exact ⟨hq.1, by omega⟩
      · exact ⟨by have := hq.1; omega, hq.2⟩
  · rw [take_snoc hj, List.map_append]
    exact h.done.snoc hR

set_option maxRecDepth 100000 in
set_option maxHeartbeats 4000000 in
theorem lay_of (S : Option Addr) (n cap : Nat) (l : List Sym) (N : Nat) (hN : N ≤ 1048576) (ih : ∀ j, j < N → LooseOk S n cap l j) (f : Int) (F : Fo) (a : Option Addr) (c : Nat) (w : World) (hF : nodesF F ≤ N) (hS : SigAt w S n l) (hA : ArgsAt w a F) :
    Calls Tryz.prog 68 #[.agg (headV S n cap l f), .slice a (lenF F) c] w fun e w' => ∃ (k : Kv) (rs : List Tn), e = .returned (.agg #[.string k.x.1, .int .i64 k.x.2, .slice k.a (lenF k.l) k.c]) ∧ All2 (LooseR (sgOf l) (arAt l)) (kidsL F) rs ∧ LayR (sgOf l) (kindK l f) f (unitI l f) rs k.tn ∧ LoosE w' (fun q => w.heap.size ≤ q) k ∧ Below w.heap.size w w' := by
  have HS := hidK hS
  have HA := hidK hA
  have IH := hidK ih
  have hlen : lenF F ≤ 1048576 := by have := len_nodes F; omega
  obtain ⟨i0, hi, hz0, hz1, hz2⟩ := info_parts Tryz.info26
  have hmax : maxLen = 9223372036854775807 := rfl
  clear hS hA ih
  obtain ⟨hv, hhv⟩ : ∃ hv, headV S n cap l f = hv := ⟨_, rfl⟩
  have HHV := hidK hhv
  have hv' := hhv
  unfold headV at hv'
  have HB0 : Hid (Below w.heap.size w ((w.alloc (.cells hv 99)).alloc (.cells #[.string ⟨#[]⟩, .int .i64 0, .slice none 0 0] 26))) := ((Below.refl _ w).alloc (Nat.le_refl _) _).alloc (by simp) _
  have HF0 : Hid (BoxK ((w.alloc (.cells hv 99)).alloc (.cells #[.string ⟨#[]⟩, .int .i64 0, .slice none 0 0] 26)) w.heap.size 99 hv) := (BoxK.new w 99 _).below ((Below.refl _ _).alloc (Nat.le_refl _) _)
  have HX0 : Hid (XBox ((w.alloc (.cells hv 99)).alloc (.cells #[.string ⟨#[]⟩, .int .i64 0, .slice none 0 0] 26)) (w.heap.size + 1) (⟨#[]⟩, 0) (.slice none 0 0)) := by
    have := World.alloc_heap_new (w.alloc (.cells hv 99)) (.cells #[.string ⟨#[]⟩, .int .i64 0, .slice none 0 0] 26)
    rw [World.size_alloc] at this
    exact this
  rw [hhv]
  clear hhv
  subst hv'
  go_enter Tryz.func68, Tryz.ntmps68
  go_wp2_with (at_make; refine wpList_make_full _ rfl _ _ 24 rfl 0 26 i0 (.agg #[.string ⟨#[]⟩, .int .i64 0, .slice none 0 0]) 3 Tryz.underlying24 hi hz0 hz1 .i64 .i64 _ _ (lenF F) rfl rfl rfl rfl (by rw [hz2]; omega) (by omega) (Nat.zero_le _) ?_; intro w0 hown0 hgrow0)
  have ST0 : Hid (LaySt (sgOf l) (arAt l) w #[.slice S n cap, .int .i64 f, .int .i64 (kindK l f), .int .i64 (unitI l f), .bool (unitOk l f)] F 0 [] w0) := by
    have hg0 : ∀ q, q < w.heap.size + 1 + 1 → w0.heap[q]? = ((w.alloc (.cells #[.slice S n cap, .int .i64 f, .int .i64 (kindK l f), .int .i64 (unitI l f), .bool (unitOk l f)] 99)).alloc (.cells #[.string ⟨#[]⟩, .int .i64 0, .slice none 0 0] 26)).heap[q]? := fun q hq => hgrow0.block q (by simp; omega) (by simp)
    refine ⟨HB0.out.grown hgrow0 (by simp; omega) (fun k e => by cases e), ?_, trivial, (hg0 _ (by omega)).trans HF0.out, (hg0 _ (by omega)).trans HX0.out, trivial, rfl⟩
    rcases hown0.2 with ⟨hv, _⟩ | ⟨g', cap', cur, hv, _, hh, _, _, hcs, _⟩
    · cases hv
    · cases hv
      rw [World.size_alloc, World.size_alloc] at hh
      exact ⟨cur, hh, hcs, fun i u hu => by simp [kvCells] at hu⟩
  clear hown0 hgrow0 HB0 HF0 HX0
  go_loopw [6, 7, 13] (fun _ _ i wr => ∃ (j : Nat) (ks : List Kv), j ≤ lenF F ∧ i = .int .i64 j ∧ LaySt (sgOf l) (arAt l) w #[.slice S n cap, .int .i64 f, .int .i64 (kindK l f), .int .i64 (unitI l f), .bool (unitOk l f)] F j ks wr) (fun _ _ i _ => lenF F - (intOf i).toNat)
  case atStart => exact ⟨0, [], Nat.zero_le _, rfl, ST0.out⟩
  case round =>
    obtain ⟨j, ks, hj, rfl, hst⟩ := hrel
    have ST := hidK hst
    clear hst ST0
    by_cases hlt : j < lenF F
    · obtain ⟨bb, oo, rfl, hkk⟩ := HA.out.get (by omega)
      obtain ⟨y, a1, c1, l1, kd⟩ := hkk.kid (k := j) hlt
      have kd' := kd.below ST.out.low
      have p0 := kd'.name; have p1 := kd'.sym; have p2 := kd'.list
      have hb1 : Below wr.heap.size wr (wr.alloc (.cells #[.string y.1, .int .i64 y.2, .slice a1 (lenF l1) c1] 26)) := (Below.refl _ _).alloc (Nat.le_refl _) _
      have hjk : (kidsL F)[j]? = some (y, l1) := by
        obtain ⟨B1, O1, sp⟩ := kd.split
        have h1 := kids_drop j F
        rw [sp, kidsL] at h1
        have := congrArg (·[0]?) h1
        simpa using this.symm
      have hC := IH.out (nodesF l1) (by have := kd.less; omega) (y, l1) a1 c1 _ (Nat.le_refl _) (HS.out.below (ST.out.low.trans (hb1.mono ST.out.low.size))) (kd'.at_.below hb1)
      have q0 : (wr.alloc (.cells #[.string y.1, .int .i64 y.2, .slice a1 (lenF l1) c1] 26)).cell? ⟨w.heap.size, 0, none⟩ = some (.slice S n cap) := (ST.out.fbox.below hb1).c 0
      have HJK := hidK hjk
      have HB1 := hidK hb1
      have HC : Hid (Calls Tryz.prog 43 #[.slice S n cap, .agg #[.string y.1, .int .i64 y.2, .slice a1 (lenF l1) c1]] (wr.alloc (.cells #[.string y.1, .int .i64 y.2, .slice a1 (lenF l1) c1] 26)) fun e w' => ∃ k : Kv, e = .returned (.agg #[.string k.x.1, .int .i64 k.x.2, .slice k.a (lenF k.l) k.c]) ∧ LooseR (sgOf l) (arAt l) (y, l1) k.tn ∧ LoosE w' (fun q => (wr.alloc (.cells #[.string y.1, .int .i64 y.2, .slice a1 (lenF l1) c1] 26)).heap.size ≤ q) k ∧ Below (wr.alloc (.cells #[.string y.1, .int .i64 y.2, .slice a1 (lenF l1) c1] 26)).heap.size (wr.alloc (.cells #[.string y.1, .int .i64 y.2, .slice a1 (lenF l1) c1] 26)) w') := hC
      clear kd kd' hb1 hjk hC hkk
      go_wp2_with (first
        | (go_at_call 43; refine HC.out.mono ?_; rintro e w2 ⟨kv, rfl, hR, hE, hb2⟩; have HR := hidK hR; have HW2 := hidK (HB1.out.trans (hb2.mono HB1.out.size)); have HE : Hid (LoosE w2 (fun q => wr.heap.size ≤ q) kv) := loosE.mono (fun q hq => by rw [World.size_alloc] at hq; omega) hE; obtain ⟨u0, v0⟩ := ST.out.cell HW2.out (i := j * 3) (by omega); obtain ⟨u1, v1⟩ := ST.out.cell HW2.out (i := j * 3 + 1) (by omega); obtain ⟨u2, v2⟩ := ST.out.cell HW2.out (i := j * 3 + 2) (by omega); have f0 := ST.out.frozen HW2.out (j * 3); have f1 := ST.out.frozen HW2.out (j * 3 + 1); have f2 := ST.out.frozen HW2.out (j * 3 + 2); clear hR hE hb2 p0 p1 p2 q0)
        | fail)
      go_roundw
      case rel => exact ⟨j + 1, _, by omega, by go_num, ST.out.step HW2.out HE.out HJK.out HR.out⟩
      case measure => simp [intOf]; omega
    · have ej : j = lenF F := by omega
      subst ej
      have hkl : ks.length = lenF F := ST.out.len
      have hdone : All2 (LooseR (sgOf l) (arAt l)) (kidsL F) (ks.map Kv.tn) := by
        have := ST.out.done
        rwa [List.take_of_length_le (by rw [kids_len]; exact Nat.le_refl _)] at this
      have HDN := hidK hdone
      have hss : sizes (ks.map Kv.tn) ≤ 1048576 := by
        have := loose_sizes hdone
        rw [← nodes_sizes] at this
        omega
      have hwl : w.heap.size + 1 + 1 < wr.heap.size := by
        obtain ⟨cur, h1, _⟩ := ST.out.row
        exact (Array.getElem?_eq_some_iff.1 h1).1
      have hRow : ∀ W, Below wr.heap.size wr W → RowL W (w.heap.size + 1 + 1) (lenF F) ks := fun W hb => by
        obtain ⟨cur, h1, h2, h3⟩ := ST.out.row
        exact ⟨⟨cur, (hb.block _ hwl).trans h1, h2, h3⟩, by omega⟩
      have hGl : ∀ W, Below wr.heap.size wr W → GL LoosE W ks (fun q => w.heap.size + 1 + 1 < q ∧ q < wr.heap.size) := fun W hb => ST.out.gl.keep loosE (fun q _ hq => hb.block q hq)
      have hSig : ∀ W, Below wr.heap.size wr W → SigLow (w.heap.size + 1 + 1) W S n l := fun W hb W' hW' => HS.out.below ((ST.out.low.trans (hb.mono (by omega))).trans (hW'.mono (by omega)))
      have fin : ∀ W w' (kv : Kv), Below wr.heap.size wr W → LoosE w' (fun q => ((w.heap.size + 1 + 1 < q ∧ q < wr.heap.size) ∨ q = w.heap.size + 1 + 1) ∨ W.heap.size ≤ q) kv → Turned (fun q => (w.heap.size + 1 + 1 < q ∧ q < wr.heap.size) ∨ q = w.heap.size + 1 + 1) W w' → LoosE w' (fun q => w.heap.size + 1 + 1 ≤ q) kv ∧ Below (w.heap.size + 1 + 1) W w' := fun W w' kv hb hE hT => ⟨loosE.mono (fun q hq => by
        have := hb.size
        rcases hq with (h | h) | h <;> omega) hE, hT.below (fun q hq => by rcases hq with h | h <;> omega) (by have := hb.size; omega)⟩
      have fb := ST.out.fbox
      have HXX := hidK ST.out.rbox
      have HLOW := hidK ST.out.low
      have q0 := fb.c 0; have q1 := fb.c 1; have q2 := fb.c 2; have q3 := fb.c 3; have q4 := fb.c 4
      have r0 := HXX.out.c0; have r1 := HXX.out.c1; have r2 := HXX.out.c2
      have g0 := HXX.out.f (k := 0); have g1 := HXX.out.f (k := 1); have g2 := HXX.out.f (k := 2)
      have HFB := hidK fb
      clear fb
      rcases (show kindK l f = 1 ∨ kindK l f = 2 ∨ kindK l f = 3 by have := kindK_range l f; omega) with hk | hk | hk
      · have HC : Hid (∀ W, Below wr.heap.size wr W → Calls Tryz.prog 101 #[.agg #[.slice S n cap, .int .i64 f, .int .i64 1, .int .i64 (unitI l f), .bool (unitOk l f)], .slice (some ⟨w.heap.size + 1 + 1, 0, none⟩) (lenF F) (lenF F)] W fun e w' => ∃ kv : Kv, e = .returned (.agg #[.string kv.x.1, .int .i64 kv.x.2, .slice kv.a (lenF kv.l) kv.c]) ∧ LayR (sgOf l) 1 f (unitI l f) (ks.map Kv.tn) kv.tn ∧ LoosE w' (fun q => w.heap.size + 1 + 1 ≤ q) kv ∧ Below (w.heap.size + 1 + 1) W w') := fun W hb => by
          have hWs := hb.size
          have := keep_any S n cap l f ks (w.heap.size + 1 + 1) (lenF F) (w.heap.size + 1 + 1) (fun q => w.heap.size + 1 + 1 < q ∧ q < wr.heap.size) W (hSig W hb) (by omega) (fun q hq => by have := hq.1; omega) (Nat.le_refl _) (fun h => absurd h.1 (Nat.lt_irrefl _)) (hRow W hb) (hGl W hb) hss (by omega)
          rw [HHV.out, hk, hkl] at this
          refine this.mono ?_
          rintro e w' ⟨kv, rfl, hf, hE, hT⟩
          obtain ⟨f1, f2⟩ := fin W w' kv hb hE hT
          exact ⟨kv, rfl, by unfold LayR; rw [if_pos rfl]; exact hf, f1, f2⟩
        rw [hk] at q2 HFB ⊢
        clear hRow hGl hSig fin hdone hss HHV
        have hix := idx1
        go_wp2_with fail
        go_region_held3 (fun w' => w'.cell? ⟨w.heap.size, 0, none⟩ = some (.slice S n cap) ∧ w'.cell? ⟨w.heap.size, 1, none⟩ = some (.int .i64 f) ∧ w'.cell? ⟨w.heap.size, 2, none⟩ = some (.int .i64 1) ∧ w'.cell? ⟨w.heap.size, 3, none⟩ = some (.int .i64 (unitI l f)) ∧ w'.cell? ⟨w.heap.size, 4, none⟩ = some (.bool (unitOk l f))) ((first | (go_split_ands; refine ⟨?_, ?_, ?_, ?_, ?_⟩ <;> (refine below_cell HB2.out _ _ ?_; assumption)) | (go_split_ands; refine ⟨?_, ?_, ?_, ?_, ?_⟩ <;> (refine (HB3.out.cell (by show w.heap.size < _; omega)).trans ?_; assumption)) | go_keep | fail)) ((first | (go_at_call 86; refine (layings_any _).mono ?_; rintro e w2 ⟨rfl, hb2⟩; have HB2 : Hid (Below wr.heap.size wr w2) := ((Below.refl _ wr).drew).trans hb2; clear hb2; unfold laysV) | (go_at_call 101; refine (HC.out _ HB2.out).mono ?_; rintro e w3 ⟨kv, rfl, hl3, hE3, hb3⟩; have HL3 := hidK hl3; have HE3 := hidK hE3; have HB3 := hidK hb3; have HX3 : XBox w3 (w.heap.size + 1) (⟨#[]⟩, 0) (.slice none 0 0) := (hb3.block _ (by omega)).trans (HXX.out.below HB2.out); have y0 := HX3.c0; have y1 := HX3.c1; have y2 := HX3.c2; have z0 := HX3.f (k := 0); have z1 := HX3.f (k := 1); have z2 := HX3.f (k := 2); have HXX3 := hidK HX3; clear hl3 hE3 hb3 HX3) | fail))
        all_goals go_wp2_with fail
        all_goals refine bodyPost_ret (results_cell_row rfl _ _ (w.heap.size + 1) 26 #[.string kv.x.1, .int .i64 kv.x.2, .slice kv.a (lenF kv.l) kv.c] (0, 0) _ rfl (HXX3.out.all (x := kv.x) _) Tryz.underlying26 rfl Tryz.size26) rfl ?_
        all_goals refine ⟨kv, ks.map Kv.tn, rfl, HDN.out, by rw [hk]; exact HL3.out, ?_, ?_⟩
        all_goals first
          | exact loosE.mono (fun q hq => by omega) (loosE.keep (fun q hq _ => sets_far (by omega) _ _ _) HE3.out)
          | exact sets_below ((HLOW.out.trans (HB2.out.mono (by omega))).trans (HB3.out.mono (by omega))) (by omega) _ _ _
      · have HC : Hid (∀ W, Below wr.heap.size wr W → Calls Tryz.prog 102 #[.agg #[.slice S n cap, .int .i64 f, .int .i64 2, .int .i64 (unitI l f), .bool (unitOk l f)], .slice (some ⟨w.heap.size + 1 + 1, 0, none⟩) (lenF F) (lenF F)] W fun e w' => ∃ kv : Kv, e = .returned (.agg #[.string kv.x.1, .int .i64 kv.x.2, .slice kv.a (lenF kv.l) kv.c]) ∧ LayR (sgOf l) 2 f (unitI l f) (ks.map Kv.tn) kv.tn ∧ LoosE w' (fun q => w.heap.size + 1 + 1 ≤ q) kv ∧ Below (w.heap.size + 1 + 1) W w') := fun W hb => by
          have hWs := hb.size
          have := flatten_any S n cap l f ks (some ⟨w.heap.size + 1 + 1, 0, none⟩) (lenF F) (w.heap.size + 1 + 1) (fun q => w.heap.size + 1 + 1 < q ∧ q < wr.heap.size) W (hSig W hb) (by omega) (fun q hq => by have := hq.1; omega) (fun W' hW' => ((hRow W hb).keep (hW'.block _ (by omega) (fun h => absurd h.1 (Nat.lt_irrefl _)))).at_) (hGl W hb) (by rw [hk]; decide) hss
          rw [HHV.out, hk, hkl] at this
          refine this.mono ?_
          rintro e w' ⟨kv, rfl, hf, hE, hT⟩
          obtain ⟨f1, f2⟩ := fin W w' kv hb (loosE.mono (fun q hq => by rcases hq with h | h; exact .inl (.inl h); exact .inr h) hE) (hT.mono (fun q _ hq => .inl hq))
          exact ⟨kv, rfl, by unfold LayR; rw [if_neg (by decide), if_pos rfl]; exact hf, f1, f2⟩
        rw [hk] at q2 HFB ⊢
        clear hRow hGl hSig fin hdone hss HHV
        have hix := idx2
        go_wp2_with fail
        go_region_held3 (fun w' => w'.cell? ⟨w.heap.size, 0, none⟩ = some (.slice S n cap) ∧ w'.cell? ⟨w.heap.size, 1, none⟩ = some (.int .i64 f) ∧ w'.cell? ⟨w.heap.size, 2, none⟩ = some (.int .i64 2) ∧ w'.cell? ⟨w.heap.size, 3, none⟩ = some (.int .i64 (unitI l f)) ∧ w'.cell? ⟨w.heap.size, 4, none⟩ = some (.bool (unitOk l f))) ((first | (go_split_ands; refine ⟨?_, ?_, ?_, ?_, ?_⟩ <;> (refine below_cell HB2.out _ _ ?_; assumption)) | (go_split_ands; refine ⟨?_, ?_, ?_, ?_, ?_⟩ <;> (refine (HB3.out.cell (by show w.heap.size < _; omega)).trans ?_; assumption)) | go_keep | fail)) ((first | (go_at_call 86; refine (layings_any _).mono ?_; rintro e w2 ⟨rfl, hb2⟩; have HB2 : Hid (Below wr.heap.size wr w2) := ((Below.refl _ wr).drew).trans hb2; clear hb2; unfold laysV) | (go_at_call 102; refine (HC.out _ HB2.out).mono ?_; rintro e w3 ⟨kv, rfl, hl3, hE3, hb3⟩; have HL3 := hidK hl3; have HE3 := hidK hE3; have HB3 := hidK hb3; have HX3 : XBox w3 (w.heap.size + 1) (⟨#[]⟩, 0) (.slice none 0 0) := (hb3.block _ (by omega)).trans (HXX.out.below HB2.out); have y0 := HX3.c0; have y1 := HX3.c1; have y2 := HX3.c2; have z0 := HX3.f (k := 0); have z1 := HX3.f (k := 1); have z2 := HX3.f (k := 2); have HXX3 := hidK HX3; clear hl3 hE3 hb3 HX3) | fail))
        all_goals go_wp2_with fail
        all_goals refine bodyPost_ret (results_cell_row rfl _ _ (w.heap.size + 1) 26 #[.string kv.x.1, .int .i64 kv.x.2, .slice kv.a (lenF kv.l) kv.c] (0, 0) _ rfl (HXX3.out.all (x := kv.x) _) Tryz.underlying26 rfl Tryz.size26) rfl ?_
        all_goals refine ⟨kv, ks.map Kv.tn, rfl, HDN.out, by rw [hk]; exact HL3.out, ?_, ?_⟩
        all_goals first
          | exact loosE.mono (fun q hq => by omega) (loosE.keep (fun q hq _ => sets_far (by omega) _ _ _) HE3.out)
          | exact sets_below ((HLOW.out.trans (HB2.out.mono (by omega))).trans (HB3.out.mono (by omega))) (by omega) _ _ _
      · have HC : Hid (∀ W, Below wr.heap.size wr W → Calls Tryz.prog 103 #[.agg #[.slice S n cap, .int .i64 f, .int .i64 3, .int .i64 (unitI l f), .bool (unitOk l f)], .slice (some ⟨w.heap.size + 1 + 1, 0, none⟩) (lenF F) (lenF F)] W fun e w' => ∃ kv : Kv, e = .returned (.agg #[.string kv.x.1, .int .i64 kv.x.2, .slice kv.a (lenF kv.l) kv.c]) ∧ LayR (sgOf l) 3 f (unitI l f) (ks.map Kv.tn) kv.tn ∧ LoosE w' (fun q => w.heap.size + 1 + 1 ≤ q) kv ∧ Below (w.heap.size + 1 + 1) W w') := fun W hb => by
          have hWs := hb.size
          have := unite_any S n cap l f ks (w.heap.size + 1 + 1) (lenF F) (w.heap.size + 1 + 1) (fun q => w.heap.size + 1 + 1 < q ∧ q < wr.heap.size) W (hSig W hb) (by omega) (fun q hq => by have := hq.1; omega) (Nat.le_refl _) (fun h => absurd h.1 (Nat.lt_irrefl _)) (hRow W hb) (hGl W hb) (by rw [hk]; decide) hss (by omega)
          rw [HHV.out, hk, hkl] at this
          refine this.mono ?_
          rintro e w' ⟨kv, rfl, hf, hE, hT⟩
          obtain ⟨f1, f2⟩ := fin W w' kv hb hE hT
          exact ⟨kv, rfl, by unfold LayR; rw [if_neg (by decide), if_neg (by decide)]; exact hf, f1, f2⟩
        rw [hk] at q2 HFB ⊢
        clear hRow hGl hSig fin hdone hss HHV
        have hix := idx3
        go_wp2_with fail
        go_region_held3 (fun w' => w'.cell? ⟨w.heap.size, 0, none⟩ = some (.slice S n cap) ∧ w'.cell? ⟨w.heap.size, 1, none⟩ = some (.int .i64 f) ∧ w'.cell? ⟨w.heap.size, 2, none⟩ = some (.int .i64 3) ∧ w'.cell? ⟨w.heap.size, 3, none⟩ = some (.int .i64 (unitI l f)) ∧ w'.cell? ⟨w.heap.size, 4, none⟩ = some (.bool (unitOk l f))) ((first | (go_split_ands; refine ⟨?_, ?_, ?_, ?_, ?_⟩ <;> (refine below_cell HB2.out _ _ ?_; assumption)) | (go_split_ands; refine ⟨?_, ?_, ?_, ?_, ?_⟩ <;> (refine (HB3.out.cell (by show w.heap.size < _; omega)).trans ?_; assumption)) | go_keep | fail)) ((first | (go_at_call 86; refine (layings_any _).mono ?_; rintro e w2 ⟨rfl, hb2⟩; have HB2 : Hid (Below wr.heap.size wr w2) := ((Below.refl _ wr).drew).trans hb2; clear hb2; unfold laysV) | (go_at_call 103; refine (HC.out _ HB2.out).mono ?_; rintro e w3 ⟨kv, rfl, hl3, hE3, hb3⟩; have HL3 := hidK hl3; have HE3 := hidK hE3; have HB3 := hidK hb3; have HX3 : XBox w3 (w.heap.size + 1) (⟨#[]⟩, 0) (.slice none 0 0) := (hb3.block _ (by omega)).trans (HXX.out.below HB2.out); have y0 := HX3.c0; have y1 := HX3.c1; have y2 := HX3.c2; have z0 := HX3.f (k := 0); have z1 := HX3.f (k := 1); have z2 := HX3.f (k := 2); have HXX3 := hidK HX3; clear hl3 hE3 hb3 HX3) | fail))
        all_goals go_wp2_with fail
        all_goals refine bodyPost_ret (results_cell_row rfl _ _ (w.heap.size + 1) 26 #[.string kv.x.1, .int .i64 kv.x.2, .slice kv.a (lenF kv.l) kv.c] (0, 0) _ rfl (HXX3.out.all (x := kv.x) _) Tryz.underlying26 rfl Tryz.size26) rfl ?_
        all_goals refine ⟨kv, ks.map Kv.tn, rfl, HDN.out, by rw [hk]; exact HL3.out, ?_, ?_⟩
        all_goals first
          | exact loosE.mono (fun q hq => by omega) (loosE.keep (fun q hq _ => sets_far (by omega) _ _ _) HE3.out)
          | exact sets_below ((HLOW.out.trans (HB2.out.mono (by omega))).trans (HB3.out.mono (by omega))) (by omega) _ _ _
end Go.Proofs.YtokbgbbkopmngaaGreat
/- What loose of package canon makes: a term's loose form. -/
namespace Go.Proofs.YtokbgbbkopmngaaGreat
open Go.RowKit Go.Deep

theorem mod_leaf {S : Sg} {ar : Int → Nat} {x : ByteArray × Int} {F : Fo} (h : noName x.1 = false ∨ lenF F = 0) : LooseR S ar (x, F) (x, F) := by
  refine ⟨Nat.le_refl _, fun hS hR => ?_⟩
  obtain ⟨hn, hF⟩ := hR
  have hn : nodeOk S ar x (lenF F) := hn
  unfold nodeOk at hn
  have key : canonT S (x, F) = (x, F) ∧ jn S (x, F) = false := by
    cases hx : noName x.1 with
    | false =>
      rw [if_pos hx] at hn
      obtain ⟨h1, h2⟩ := hn
      have hF := len_nil h2
      subst hF
      obtain ⟨x1, x2⟩ := x
      dsimp only at h1 hx
      subst h1
      refine ⟨?_, by unfold jn; simp [hx]⟩
      unfold canonT canon1
      rw [if_pos hx]
    | true =>
      rw [if_neg (by rw [hx]; simp)] at hn
      have h0 : lenF F = 0 := by
        rcases h with h | h
        · rw [hx] at h; cases h
        · exact h
      have hF := len_nil h0
      subst hF
      have hj : S.joins x.2 = false := by
        cases hj : S.joins x.2 with
        | false => rfl
        | true => rw [if_pos hj] at hn; simp [lenF] at hn
      obtain ⟨x1, x2⟩ := x
      have e1 : x1 = noB := noName_eq hx
      subst e1
      refine ⟨?_, by unfold jn; simp only; rw [hj]; simp⟩
      unfold canonT canon1
      rw [if_neg (by rw [hx]; simp)]
      show (if S.joins x2 = true then _ else _) = _
      rw [hj]
      rfl
  rw [key.1]
  exact ⟨rfl, by rw [key.2]; simp⟩

set_option maxRecDepth 100000 in
set_option maxHeartbeats 2000000 in
theorem loose_of (S : Option Addr) (n cap : Nat) (l : List Sym) (N : Nat) (hN : N ≤ 1048576) (ih : ∀ j, j < N → LooseOk S n cap l j) : LooseOk S n cap l N := by
  intro t a c w hF hS hT
  obtain ⟨⟨nm, s⟩, F⟩ := t
  have HB0 : Hid (Below w.heap.size w ((w.alloc (.cells #[.string nm, .int .i64 s, .slice a (lenF F) c] 26)).alloc (.cells #[.string ⟨#[]⟩, .int .i64 0, .slice none 0 0] 26))) := ((Below.refl _ w).alloc (Nat.le_refl _) _).alloc (by simp) _
  have HX0 : Hid (XBox ((w.alloc (.cells #[.string nm, .int .i64 s, .slice a (lenF F) c] 26)).alloc (.cells #[.string ⟨#[]⟩, .int .i64 0, .slice none 0 0] 26)) (w.heap.size + 1) (⟨#[]⟩, 0) (.slice none 0 0)) := by
    have := World.alloc_heap_new (w.alloc (.cells #[.string nm, .int .i64 s, .slice a (lenF F) c] 26)) (.cells #[.string ⟨#[]⟩, .int .i64 0, .slice none 0 0] 26)
    rw [World.size_alloc] at this
    exact this
  have HT0 : Hid (XBox ((w.alloc (.cells #[.string nm, .int .i64 s, .slice a (lenF F) c] 26)).alloc (.cells #[.string ⟨#[]⟩, .int .i64 0, .slice none 0 0] 26)) w.heap.size (nm, s) (.slice a (lenF F) c)) := (Below.heap_alloc _ _ _ (by simp)).trans (World.alloc_heap_new w _)
  have HCL : Hid (∀ W, Below w.heap.size w W → Calls Tryz.prog 23 #[.agg #[.string nm, .int .i64 s, .slice a (lenF F) c]] W fun e w' => ∃ a' c', e = .returned (.agg #[.string nm, .int .i64 s, .slice a' (lenF F) c']) ∧ SepTm w' (fun k => W.heap.size ≤ k) (nm, s) a' c' F ∧ Below W.heap.size W w' ∧ (lenF F = 0 → a' = none ∧ c' = 0)) := fun W hW => clone_any (nm, s) F a c W (TmAt.below hT hW)
  have HHD : Hid (∀ W, Below w.heap.size w W → Calls Tryz.prog 67 #[.slice S n cap, .int .i64 s] W fun e w' => e = .returned (.agg (headV S n cap l s)) ∧ Below W.heap.size W w') := fun W hW => headAt_any S n cap l s W (hS.below hW)
  have HLY : Hid (∀ W, Below w.heap.size w W → Calls Tryz.prog 68 #[.agg (headV S n cap l s), .slice a (lenF F) c] W fun e w' => ∃ (k : Kv) (rs : List Tn), e = .returned (.agg #[.string k.x.1, .int .i64 k.x.2, .slice k.a (lenF k.l) k.c]) ∧ All2 (LooseR (sgOf l) (arAt l)) (kidsL F) rs ∧ LayR (sgOf l) (kindK l s) s (unitI l s) rs k.tn ∧ LoosE w' (fun q => W.heap.size ≤ q) k ∧ Below W.heap.size W w') := fun W hW => lay_of S n cap l N hN ih s F a c W hF (hS.below hW) (hT.args.below hW)
  clear hS hT ih
  have leaf : Hid (noName nm = false ∨ lenF F = 0 → ∀ W2 (w2 : World) a' c', SepTm w2 (fun k => w.heap.size + 2 ≤ k) (nm, s) a' c' F → (lenF F = 0 → a' = none ∧ c' = 0) → Below w.heap.size w w2 → W2 = (((w2.setCell ⟨w.heap.size + 1, 0, none⟩ (.string nm)).setCell ⟨w.heap.size + 1, 1, none⟩ (.int .i64 s)).setCell ⟨w.heap.size + 1, 2, none⟩ (.slice a' (lenF F) c')) → LooseR (sgOf l) (arAt l) ((nm, s), F) ((nm, s), F) ∧ LoosE W2 (fun q => w.heap.size ≤ q) ⟨(nm, s), F, a', c'⟩ ∧ Below w.heap.size w W2) := fun h W2 w2 a' c' h1 h2 h3 e => by
    subst e
    refine ⟨mod_leaf h, ⟨?_, fun hn => .inl ?_⟩, sets_below h3 (by omega) _ _ _⟩
    · exact sepE.mono (fun q hq => by omega) (sepE.keep (k := ⟨(nm, s), F, a', c'⟩) (fun q hq _ => sets_far (by omega) _ _ _) h1)
    · have h0 : lenF F = 0 := by
        rcases h with h | h
        · rw [show noName nm = true from hn] at h; cases h
        · exact h
      exact ⟨(h2 h0).1, (h2 h0).2, h0⟩
  have c0 := HT0.out.c0; have c1 := HT0.out.c1; have c2 := HT0.out.c2
  cases hn : nm.toList.isEmpty
  · go_enter Tryz.func43, Tryz.ntmps43
    go_wp2_with (first
      | (go_at_call 23; refine (HCL.out _ HB0.out).mono ?_; rintro e w2 ⟨a', c', rfl, hs2, hb2, hz2⟩; have HS2 : Hid (SepTm w2 (fun k => w.heap.size + 2 ≤ k) (nm, s) a' c' F) := SepTm.mono (fun q hq => by rw [World.size_alloc, World.size_alloc] at hq; omega) hs2; have HZ2 := hidK hz2; have HB2 := hidK (HB0.out.trans (hb2.mono (by simp; omega))); have HX2 := HX0.out.below hb2; have y0 := HX2.c0; have y1 := HX2.c1; have y2 := HX2.c2; have z0 := HX2.f (k := 0); have z1 := HX2.f (k := 1); have z2 := HX2.f (k := 2); have HXX := hidK HX2; clear hs2 hb2 hz2 HX2)
      | fail)
    refine bodyPost_ret (results_cell_row rfl _ _ (w.heap.size + 1) 26 #[.string nm, .int .i64 s, .slice a' (lenF F) c'] (0, 0) _ rfl (HXX.out.all (x := (nm, s)) _) Tryz.underlying26 rfl Tryz.size26) rfl ?_
    obtain ⟨e1, e2, e3⟩ := leaf.out (.inl hn) _ w2 a' c' HS2.out HZ2.out HB2.out rfl
    exact ⟨⟨(nm, s), F, a', c'⟩, rfl, e1, e2, e3⟩
  · by_cases h0 : lenF F = 0
    · have hz : ((lenF F : Int) == 0) = true := by simp [h0]
      have H0 := hidK h0
      clear h0
      go_enter Tryz.func43, Tryz.ntmps43
      go_wp2_with (first
        | (go_at_call 23; refine (HCL.out _ HB0.out).mono ?_; rintro e w2 ⟨a', c', rfl, hs2, hb2, hz2⟩; have HS2 : Hid (SepTm w2 (fun k => w.heap.size + 2 ≤ k) (nm, s) a' c' F) := SepTm.mono (fun q hq => by rw [World.size_alloc, World.size_alloc] at hq; omega) hs2; have HZ2 := hidK hz2; have HB2 := hidK (HB0.out.trans (hb2.mono (by simp; omega))); have HX2 := HX0.out.below hb2; have y0 := HX2.c0; have y1 := HX2.c1; have y2 := HX2.c2; have z0 := HX2.f (k := 0); have z1 := HX2.f (k := 1); have z2 := HX2.f (k := 2); have HXX := hidK HX2; clear hs2 hb2 hz2 HX2)
        | fail)
      refine bodyPost_ret (results_cell_row rfl _ _ (w.heap.size + 1) 26 #[.string nm, .int .i64 s, .slice a' (lenF F) c'] (0, 0) _ rfl (HXX.out.all (x := (nm, s)) _) Tryz.underlying26 rfl Tryz.size26) rfl ?_
      obtain ⟨e1, e2, e3⟩ := leaf.out (.inr H0.out) _ w2 a' c' HS2.out HZ2.out HB2.out rfl
      exact ⟨⟨(nm, s), F, a', c'⟩, rfl, e1, e2, e3⟩
    · have hz : ((lenF F : Int) == 0) = false := by simpa using h0
      have H0 := hidK h0
      clear h0
      go_enter Tryz.func43, Tryz.ntmps43
      have HSZ0 : Hid (((w.alloc (.cells #[.string nm, .int .i64 s, .slice a (lenF F) c] 26)).alloc (.cells #[.string ⟨#[]⟩, .int .i64 0, .slice none 0 0] 26)).heap.size = w.heap.size + 2) := by show _ = _; simp
      go_wp2_with fail
      generalize (w.alloc (.cells #[.string nm, .int .i64 s, .slice a (lenF F) c] 26)).alloc (.cells #[.string ⟨#[]⟩, .int .i64 0, .slice none 0 0] 26) = W0 at HB0 HX0 HT0 HSZ0 c0 c1 c2 ⊢
      go_region_held3 (fun w' => w'.cell? ⟨w.heap.size, 1, none⟩ = some (.int .i64 s) ∧ w'.cell? ⟨w.heap.size, 2, none⟩ = some (.slice a (lenF F) c)) ((first | (go_split_ands; refine ⟨?_, ?_⟩ <;> (refine below_cell HB1.out _ _ ?_; assumption)) | (go_split_ands; refine ⟨?_, ?_⟩ <;> (refine below_cell (HB1.out.trans (HB3.out.mono HB1.out.size)) _ _ ?_; assumption)) | go_keep | fail)) ((first
        | (go_at_call 67; refine (HHD.out _ HB0.out.drew).mono ?_; rintro e w1 ⟨rfl, hb1⟩; have HB1 : Hid (Below W0.heap.size W0 w1) := ((Below.refl _ W0).drew).trans hb1; clear hb1)
        | (go_at_call 68; refine (HLY.out _ (HB0.out.trans (HB1.out.mono HB0.out.size))).mono ?_; rintro e w3 ⟨kv, rs, rfl, ha3, hl3, hE3, hb3⟩; have HA3 := hidK ha3; have HL3 := hidK hl3; have HE3 := hidK hE3; have HB3 := hidK hb3; have HX3 := (HX0.out.below HB1.out).below hb3; have y0 := HX3.c0; have y1 := HX3.c1; have y2 := HX3.c2; have z0 := HX3.f (k := 0); have z1 := HX3.f (k := 1); have z2 := HX3.f (k := 2); have HXX := hidK HX3; clear ha3 hl3 hE3 hb3 HX3)
        | fail))
      all_goals go_wp2_with fail
      all_goals refine bodyPost_ret (results_cell_row rfl _ _ (w.heap.size + 1) 26 #[.string kv.x.1, .int .i64 kv.x.2, .slice kv.a (lenF kv.l) kv.c] (0, 0) _ rfl (HXX.out.all (x := kv.x) _) Tryz.underlying26 rfl Tryz.size26) rfl ?_
      all_goals have hs1 : w.heap.size + 2 ≤ w1.heap.size := (by have := HB1.out.size; have := HSZ0.out; omega)
      all_goals exact ⟨kv, rfl, lay_loose (x := (nm, s)) (kindK_ok l s) hn H0.out HA3.out HL3.out, loosE.mono (fun q hq => by omega) (loosE.keep (fun q hq _ => sets_far (by omega) _ _ _) HE3.out), sets_below (HB0.out.trans ((HB1.out.mono HB0.out.size).trans (HB3.out.mono (by omega)))) (by omega) _ _ _⟩
theorem loose_all (S : Option Addr) (n cap : Nat) (l : List Sym) : ∀ N, N ≤ 1048576 → LooseOk S n cap l N := by
  intro N
  induction N using Nat.strongRecOn with
  | _ N ih => exact fun hN => loose_of S n cap l N hN (fun j hj => ih j hj (by omega))
end Go.Proofs.YtokbgbbkopmngaaGreat
/- What Canon, Is and Equal of package canon answer. -/
namespace Go.Proofs.YtokbgbbkopmngaaGreat
open Go.RowKit Go.Deep

/-- No greater than t, whatever t is; of a right one the canonical form. -/
def CanR (l : List Sym) (t r : Tn) : Prop := sizeT r ≤ sizeT t ∧ ((sgOf l).Ok (arAt l) → RightT (sgOf l) (arAt l) t → r = canonT (sgOf l) t)
theorem canR_of {l : List Sym} {t r r' : Tn} (h : LooseR (sgOf l) (arAt l) t r) (k : SetR (sgOf l) r r') : CanR l t r' :=
  ⟨by rw [set_size k]; exact h.1, fun hS hR => mod_set (canonT_can hS hR) (h.2 hS hR) k⟩

set_option maxRecDepth 100000 in
set_option maxHeartbeats 2000000 in
theorem pcanon_any (S : Option Addr) (n cap : Nat) (l : List Sym) (t : Tn) (a : Option Addr) (c : Nat) (w : World) (hS : SigAt w S n l) (hT : TmAt w t.1 a c t.2) (hk : nodesF t.2 ≤ 1048576) :
    Calls Tryz.prog 28 #[.slice S n cap, .agg #[.string t.1.1, .int .i64 t.1.2, .slice a (lenF t.2) c]] w fun e w' => ∃ k : Kv, e = .returned (.agg #[.string k.x.1, .int .i64 k.x.2, .slice k.a (lenF k.l) k.c]) ∧ CanR l t k.tn ∧ LoosE w' (fun q => w.heap.size ≤ q) k ∧ Below w.heap.size w w' := by
  obtain ⟨⟨nm, s⟩, F⟩ := t
  have HL : Hid (∀ W, Below w.heap.size w W → Calls Tryz.prog 43 #[.slice S n cap, .agg #[.string nm, .int .i64 s, .slice a (lenF F) c]] W fun e w' => ∃ k : Kv, e = .returned (.agg #[.string k.x.1, .int .i64 k.x.2, .slice k.a (lenF k.l) k.c]) ∧ LooseR (sgOf l) (arAt l) ((nm, s), F) k.tn ∧ LoosE w' (fun q => W.heap.size ≤ q) k ∧ Below W.heap.size W w') := fun W hW => loose_all S n cap l 1048576 (Nat.le_refl _) ((nm, s), F) a c W hk (hS.below hW) (TmAt.below hT hW)
  have HSE : Hid (∀ W k A, Below w.heap.size w W → LoosE W A k → Calls Tryz.prog 42 #[.slice S n cap, .agg #[.string k.x.1, .int .i64 k.x.2, .slice k.a (lenF k.l) k.c]] W fun e w' => ∃ F, e = .returned (.agg #[.string k.x.1, .int .i64 k.x.2, .slice k.a (lenF F) k.c]) ∧ lenF F = lenF k.l ∧ SetR (sgOf l) k.tn (k.x, F) ∧ LoosE w' A ⟨k.x, F, k.a, k.c⟩ ∧ Turned A W w') := fun W k A hW hE => settle_anyK S n cap l k A W (hS.below hW) hE
  have HB0 : Hid (Below w.heap.size w ((w.alloc (.cells #[.string nm, .int .i64 s, .slice a (lenF F) c] 26)).alloc (.cells #[.string ⟨#[]⟩, .int .i64 0, .slice none 0 0] 26))) := ((Below.refl _ w).alloc (Nat.le_refl _) _).alloc (by simp) _
  have HX0 : Hid (XBox ((w.alloc (.cells #[.string nm, .int .i64 s, .slice a (lenF F) c] 26)).alloc (.cells #[.string ⟨#[]⟩, .int .i64 0, .slice none 0 0] 26)) (w.heap.size + 1) (⟨#[]⟩, 0) (.slice none 0 0)) := by
    have := World.alloc_heap_new (w.alloc (.cells #[.string nm, .int .i64 s, .slice a (lenF F) c] 26)) (.cells #[.string ⟨#[]⟩, .int .i64 0, .slice none 0 0] 26)
    rw [World.size_alloc] at this
    exact this
  have HSZ0 : Hid (((w.alloc (.cells #[.string nm, .int .i64 s, .slice a (lenF F) c] 26)).alloc (.cells #[.string ⟨#[]⟩, .int .i64 0, .slice none 0 0] 26)).heap.size = w.heap.size + 2) := by show _ = _; simp
  clear hS hT
  go_enter Tryz.func28, Tryz.ntmps28
  go_wp2_with (first
    | (go_at_call 43; refine (HL.out _ HB0.out).mono ?_; rintro e w1 ⟨k, rfl, hr1, hE1, hb1⟩; have HR1 := hidK hr1; have HE1 : Hid (LoosE w1 (fun q => w.heap.size + 2 ≤ q) k) := (by rw [HSZ0.out] at hE1; exact hE1); have HB1 := hidK (HB0.out.trans (hb1.mono (by rw [HSZ0.out]; omega))); have HX1 := hidK (HX0.out.below hb1); clear hr1 hE1 hb1)
    | (go_at_call 42; refine (HSE.out _ k _ HB1.out HE1.out).mono ?_; rintro e w2 ⟨F2, rfl, hF2, hs2, hE2, ht2⟩; have HF2 := hidK hF2; have HS2 := hidK hs2; have HE2 := hidK hE2; have HT2 := hidK ht2; have HX2 : XBox w2 (w.heap.size + 1) (⟨#[]⟩, 0) (.slice none 0 0) := (ht2.block _ HX1.out.lt (by omega)).trans HX1.out; have y0 := HX2.c0; have y1 := HX2.c1; have y2 := HX2.c2; have z0 := HX2.f (k := 0); have z1 := HX2.f (k := 1); have z2 := HX2.f (k := 2); have HXX := hidK HX2; clear hF2 hs2 hE2 ht2 HX2)
    | fail)
  refine bodyPost_ret (results_cell_row rfl _ _ (w.heap.size + 1) 26 #[.string k.x.1, .int .i64 k.x.2, .slice k.a (lenF F2) k.c] (0, 0) _ rfl (HXX.out.all (x := k.x) _) Tryz.underlying26 rfl Tryz.size26) rfl ?_
  refine ⟨⟨k.x, F2, k.a, k.c⟩, rfl, canR_of HR1.out HS2.out, loosE.mono (fun q hq => by omega) (loosE.keep (fun q hq _ => sets_far (by omega) _ _ _) HE2.out), sets_below (HB1.out.trans (HT2.out.below (fun q hq => by omega) HB1.out.size)) (by omega) _ _ _⟩

set_option maxRecDepth 100000 in
set_option maxHeartbeats 2000000 in
theorem pequal_any (S : Option Addr) (n cap : Nat) (l : List Sym) (t u : Tn) (a b : Option Addr) (c d : Nat) (w : World) (hS : SigAt w S n l) (hT : TmAt w t.1 a c t.2) (hU : TmAt w u.1 b d u.2) (hk : nodesF t.2 ≤ 1048576) (hk' : nodesF u.2 ≤ 1048576) :
    Calls Tryz.prog 16 #[.slice S n cap, .agg #[.string t.1.1, .int .i64 t.1.2, .slice a (lenF t.2) c], .agg #[.string u.1.1, .int .i64 u.1.2, .slice b (lenF u.2) d]] w fun e w' => ∃ r r', CanR l t r ∧ CanR l u r' ∧ e = .returned (.bool (cmpN r r' == 0)) ∧ Below w.heap.size w w' := by
  obtain ⟨⟨nm, s⟩, F⟩ := t
  obtain ⟨⟨nm', s'⟩, F'⟩ := u
  have HC : Hid (∀ W, Below w.heap.size w W → Calls Tryz.prog 28 #[.slice S n cap, .agg #[.string nm, .int .i64 s, .slice a (lenF F) c]] W fun e w' => ∃ k : Kv, e = .returned (.agg #[.string k.x.1, .int .i64 k.x.2, .slice k.a (lenF k.l) k.c]) ∧ CanR l ((nm, s), F) k.tn ∧ LoosE w' (fun q => W.heap.size ≤ q) k ∧ Below W.heap.size W w') := fun W hW => pcanon_any S n cap l ((nm, s), F) a c W (hS.below hW) (TmAt.below hT hW) hk
  have HC' : Hid (∀ W, Below w.heap.size w W → Calls Tryz.prog 28 #[.slice S n cap, .agg #[.string nm', .int .i64 s', .slice b (lenF F') d]] W fun e w' => ∃ k : Kv, e = .returned (.agg #[.string k.x.1, .int .i64 k.x.2, .slice k.a (lenF k.l) k.c]) ∧ CanR l ((nm', s'), F') k.tn ∧ LoosE w' (fun q => W.heap.size ≤ q) k ∧ Below W.heap.size W w') := fun W hW => pcanon_any S n cap l ((nm', s'), F') b d W (hS.below hW) (TmAt.below hU hW) hk'
  have HSM : Hid (∀ W (k k' : Kv) A A', LoosE W A k → LoosE W A' k' → Calls Tryz.prog 27 #[.agg #[.string k.x.1, .int .i64 k.x.2, .slice k.a (lenF k.l) k.c], .agg #[.string k'.x.1, .int .i64 k'.x.2, .slice k'.a (lenF k'.l) k'.c]] W fun e w' => e = .returned (.bool (cmpN k.tn k'.tn == 0)) ∧ Below W.heap.size W w') := fun W k k' A A' hE hE' => same_anyK k.tn k'.tn k.a k'.a k.c k'.c W (SepTm.tm hE.1) (SepTm.tm hE'.1)
  have HB0 : Hid (Below w.heap.size w ((w.alloc (.cells #[.string nm, .int .i64 s, .slice a (lenF F) c] 26)).alloc (.cells #[.string nm', .int .i64 s', .slice b (lenF F') d] 26))) := ((Below.refl _ w).alloc (Nat.le_refl _) _).alloc (by simp) _
  have HX0 : Hid (XBox ((w.alloc (.cells #[.string nm, .int .i64 s, .slice a (lenF F) c] 26)).alloc (.cells #[.string nm', .int .i64 s', .slice b (lenF F') d] 26)) (w.heap.size + 1) (nm', s') (.slice b (lenF F') d)) := by
    have := World.alloc_heap_new (w.alloc (.cells #[.string nm, .int .i64 s, .slice a (lenF F) c] 26)) (.cells #[.string nm', .int .i64 s', .slice b (lenF F') d] 26)
    rw [World.size_alloc] at this
    exact this
  clear hS hT hU
  have HT0 : Hid (XBox ((w.alloc (.cells #[.string nm, .int .i64 s, .slice a (lenF F) c] 26)).alloc (.cells #[.string nm', .int .i64 s', .slice b (lenF F') d] 26)) w.heap.size (nm, s) (.slice a (lenF F) c)) := (Below.heap_alloc _ _ _ (by simp)).trans (World.alloc_heap_new w _)
  have c0 := HT0.out.c0; have c1 := HT0.out.c1; have c2 := HT0.out.c2
  have d0 := HX0.out.c0; have d1 := HX0.out.c1; have d2 := HX0.out.c2
  go_enter Tryz.func16, Tryz.ntmps16
  go_wp2_with fail
  generalize (w.alloc (.cells #[.string nm, .int .i64 s, .slice a (lenF F) c] 26)).alloc (.cells #[.string nm', .int .i64 s', .slice b (lenF F') d] 26) = W0 at HB0 HX0 HT0 c0 c1 c2 d0 d1 d2 ⊢
  go_region_held3 (fun w' => w'.cell? ⟨w.heap.size, 0, none⟩ = some (.string nm) ∧ w'.cell? ⟨w.heap.size, 1, none⟩ = some (.int .i64 s) ∧ w'.cell? ⟨w.heap.size, 2, none⟩ = some (.slice a (lenF F) c) ∧ w'.cell? ⟨w.heap.size + 1, 0, none⟩ = some (.string nm') ∧ w'.cell? ⟨w.heap.size + 1, 1, none⟩ = some (.int .i64 s') ∧ w'.cell? ⟨w.heap.size + 1, 2, none⟩ = some (.slice b (lenF F') d)) ((first | (go_split_ands; refine ⟨?_, ?_, ?_, ?_, ?_, ?_⟩ <;> (refine below_cell HB3.out _ _ ?_; assumption)) | (go_split_ands; refine ⟨?_, ?_, ?_, ?_, ?_, ?_⟩ <;> (refine below_cell HB2.out _ _ ?_; assumption)) | (go_split_ands; refine ⟨?_, ?_, ?_, ?_, ?_, ?_⟩ <;> (refine below_cell HB1.out _ _ ?_; assumption)) | go_keep | fail)) ((first
    | (go_at_call 27; refine (HSM.out _ k k' _ _ HE1'.out HE2.out).mono ?_; rintro e w3 ⟨rfl, hb3⟩; have HB3 : Hid (Below W0.heap.size W0 w3) := HB2.out.trans (hb3.mono HB2.out.size); clear hb3)
    | (go_at_call 28; refine (HC'.out _ (HB0.out.trans (HB1.out.mono HB0.out.size))).mono ?_; rintro e w2 ⟨k', rfl, hr2, hE2, hb2⟩; have HR2 := hidK hr2; have HE2 := hidK hE2; have HE1' := hidK (loosE.keep (fun q _ hq => hb2.block q hq) HE1.out); have HB2 : Hid (Below W0.heap.size W0 w2) := HB1.out.trans (hb2.mono HB1.out.size); clear hr2 hE2 hb2)
    | (go_at_call 28; refine (HC.out _ HB0.out.drew).mono ?_; rintro e w1 ⟨k, rfl, hr1, hE1, hb1⟩; have HR1 := hidK hr1; have HE1 := hidK hE1; have HB1 : Hid (Below W0.heap.size W0 w1) := ((Below.refl _ W0).drew).trans hb1; clear hr1 hE1 hb1)
    | fail))
  all_goals go_wp2_with fail
  all_goals go_ret
  all_goals exact ⟨k.tn, k'.tn, HR1.out, HR2.out, rfl, HB0.out.trans (HB3.out.mono HB0.out.size)⟩
end Go.Proofs.YtokbgbbkopmngaaGreat
