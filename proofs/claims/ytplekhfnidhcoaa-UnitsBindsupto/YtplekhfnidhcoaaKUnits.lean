import Derived.Test.YtplekhfnidhcoaaUnJ
import Derived.Test.YtplekhfnidhcoaaUnI
import Derived.Test.YtplekhfnidhcoaaUnD
import Derived.Lib.AppendZeros
import Derived.Test.YtplekhfnidhcoaaTVPlain
import Derived.Test.YtplekhfnidhcoaaKVoI
/- What Units of package sig makes. -/
namespace Go.Proofs.Ytplekhfnidhcoaa
open Go.RowKit Go.Maps

/-- A slice of integers in memory from block 'base' on, which may be written. -/
structure IntsZ (w : World) (base : Nat) (a : Option Addr) (n : Nat) (zs : List Int) : Prop where
  len : n = zs.length
  small : n ≤ maxLen
  cells : ∀ j (h : j < zs.length), ∃ b, a = some ⟨b, 0, none⟩ ∧ base ≤ b ∧ w.cell? ⟨b, j, none⟩ = some (.int .i64 zs[j]) ∧ w.frozen? ⟨b, j, none⟩ = false

theorem heap_mapBlock (w : World) (blk k : Nat) (f : Array Value → Array Value) (h : k ≠ blk) : (Sort.mapBlock w blk f).heap[k]? = w.heap[k]? := by
  simp only [Sort.mapBlock, Array.getElem?_modify]
  rw [if_neg (by omega)]
theorem below_putRow {B : Nat} {a w : World} (h : Below B a w) {g : Nat} (hg : B ≤ g) (q off : Nat) (d : Array Int) : Below B a (Sort.putRow (Value.int .i64) (Sort.ahead w q) g off d) :=
  h.trans ⟨rfl, rfl, rfl, by simp, fun k hk => by
    unfold Sort.putRow
    rw [heap_mapBlock _ _ _ _ (by omega)]; rfl⟩
theorem below_grow {B : Nat} {a w : World} (h : Below B a w) (hB : B ≤ w.heap.size) (os : Array Obj) : Below B a (Sort.grow w os) :=
  h.trans ⟨rfl, rfl, rfl, by simp, fun k hk => Sort.heap_grow_old w os (by omega)⟩

theorem holds_of_owns {w : World} {g : Nat} {cur : Array Value} {zs : List Int} (hh : w.heap[g]? = some (.cells cur 3 (0, 0))) (hc : cur.toList.take (zs.length * 1) = ints zs) : Sort.Holds (Value.int .i64) w g 0 zs.toArray := by
  intro j hj
  have hj' : j < zs.length := by simpa using hj
  refine ⟨?_, by simp [World.frozen?, hh]⟩
  rw [Nat.zero_add, cell_of_row w g j cur 3 (0, 0) hh]
  have h1 : (cur.toList.take (zs.length * 1))[j]? = (ints zs)[j]? := by rw [hc]
  rw [List.getElem?_take_of_lt (by omega)] at h1
  simp only [Array.getElem?_toList] at h1
  rw [h1, getElem!_pos _ j hj]
  simp [ints, hj']

theorem ownsMap_of_block {H : Type} {w w' : World} {P : Program} {k : TypeId} {R : Value → Option (DataW H × List MemPlace)} {b n : Nat} {D : DataW H} (h : w.ownsMap P k R b n D) (hb : w'.heap[b]? = w.heap[b]?) : w'.ownsMap P k R b n D := by
  obtain ⟨es, clock, h1, h2⟩ := h
  exact ⟨es, clock, hb.trans h1, h2⟩
theorem ownsMap_lt {H : Type} {w : World} {P : Program} {k : TypeId} {R : Value → Option (DataW H × List MemPlace)} {b n : Nat} {D : DataW H} (h : w.ownsMap P k R b n D) : b < w.heap.size := by
  obtain ⟨es, clock, h1, _⟩ := h
  rcases Nat.lt_or_ge b w.heap.size with hlt | hge
  · exact hlt
  · rw [Array.getElem?_eq_none hge] at h1; cases h1

/-- What holds behind k rounds. -/
structure UnitsTo (w wr : World) (l : List Sym) (n k : Nat) (v : Value) (D : DataW Unit) : Prop where
  own : wr.ownsRow (w.heap.size + 1) 3 1 v (rawTo l k).length (ints (rawTo l k))
  map : wr.ownsMap Try.prog 9 (plainElem Try.prog 3) w.heap.size n D
  below : Below w.heap.size w wr

set_option maxHeartbeats 1000000 in
theorem sunits_any (a : Option Addr) (n cap : Nat) (l : List Sym) (w : World) (h : SigAt w a n l) (hr : n * 48 ≤ 140737488351232) :
    Calls Try.prog 24 #[.slice a n cap] w fun e w' => ∃ a' m cap', e = .returned (.slice a' m cap') ∧ IntsZ w' w.heap.size a' m (refTo l n) ∧ Below w.heap.size w w' := by
  obtain ⟨i0, hi, hz0, hz1, hz2⟩ := info_parts Try.info3s
  have HS : Hid (SigAt w a n l) := h
  have hlen : Hid (n = l.length) := h.len
  clear h
  go_enter Try.func24, Try.ntmps24
  go_wp2_with fail
  refine (places_any a n cap l _ HS.out hr).mono ?_
  rintro e w1 ⟨D, rfl, hown, hpl, hb⟩
  have HP : Hid (Places D l) := hpl
  have H0 : Hid (UnitsTo w w1 l n 0 (.slice none 0 0) D) := ⟨World.ownsRow_nil _ _ _ _, hown, hb⟩
  clear hown hpl hb
  go_wp2
  go_loopw [4, 6, 7, 8, 13] (fun v _ _ _ i w' => ∃ k : Nat, k ≤ n ∧ i = .int .i64 k ∧ UnitsTo w w' l n k v D) (fun _ _ _ _ i _ => n - (intOf i).toNat)
  case atStart => exact ⟨0, Nat.zero_le _, rfl, H0.out⟩
  case round =>
    obtain ⟨k, hk, rfl, hto⟩ := hrel
    have HT : Hid (UnitsTo w wr l n k u4 D) := hto
    have hszm := ownsMap_lt hto.map
    clear hto
    by_cases hlt : k < n
    · have hlk : k < l.length := by have := hlen.out; omega
      have hle := rawTo_le l k
      obtain ⟨b, off, rfl, hsym⟩ := HS.out.cells k hlk
      have hw := hsym.below HT.out.below
      have c0 := hw.name
      have c1 := hw.kind
      have c2 := hw.arity
      have c3 := hw.unit
      clear hw hsym
      have hown := HT.out.own
      have hmap := HT.out.map
      have hkey : keyOf Try.prog 9 (.string l[k].unit) = some (keyL l[k].unit) := Go.WideMaps.keyOf_string_mk Try.underlying9 (HS.out.fits _ (List.getElem_mem hlk)).unit
      cases hk3 : (l[k].kind != 3)
      · have hk3' : Hid (l[k].kind = 3) := by show _ = _; simpa using hk3
        cases hf : findL l l[k].unit with
        | none =>
          have hraw : Hid (rawTo l (k + 1) = rawTo l k) := rawTo_none hlk (by unfold unitOf; rw [if_pos hk3'.out, hf]; rfl)
          have hhas := HP.out.has l[k].unit
          rw [findB_none hf] at hhas
          have HF : Hid (findL l l[k].unit = none) := hf
          clear hf
          go_wp2_with (first | (at_lookup; refine wpList_lookup_own_ok_int _ rfl _ _ 76 rfl 9 3 .i64 law9 Try.underlying76 Try.underlying3 (zero3 _) w.heap.size n D rfl (hmap.alloc _) _ _ rfl hkey ?_; intro c hat hwc))
          go_roundw
          case rel => exact ⟨k + 1, by omega, by go_num, ⟨by rw [hraw.out]; exact hown.alloc _, hmap.alloc _, HT.out.below.alloc HT.out.below.size _⟩⟩
          case measure => simp [intOf]; omega
        | some i =>
          have hraw : Hid (rawTo l (k + 1) = rawTo l k ++ [(i : Int)]) := rawTo_some hlk (by unfold unitOf; rw [if_pos hk3'.out, hf]; rfl)
          have hhas := HP.out.has l[k].unit
          rw [findB_some hf] at hhas
          have HF : Hid (D.atKey (keyL l[k].unit) (.lit (.int .i64 0)) = .lit (.int .i64 i)) := HP.out.at_ _ _ hf
          clear hf
          go_wp2_with (first | (at_lookup; refine wpList_lookup_own_ok_int _ rfl _ _ 76 rfl 9 3 .i64 law9 Try.underlying76 Try.underlying3 (zero3 _) w.heap.size n D rfl (hmap.alloc _) _ _ rfl hkey ?_; intro c hat hwc; have hci : c = (i : Int) := (by have := HF.out; rw [hat] at this; simpa using this); subst hci) | (at_builtin; go_loud (refine wpList_append_lies _ rfl (.tmp 28) (.tmp 30) 29 rfl (w.heap.size + 1) 3 i0 _ 1 8 Try.underlying29 hi hz0 hz1 hz2 rfl (by decide) u4 (rawTo l k).length (ints (rawTo l k)) rfl ((hown.alloc _).alloc _) ⟨wr.heap.size + 1, 0, none⟩ 1 1 (ints [(i : Int)]) rfl rfl (int_news _ _ (by simp) _) (ints_one _) (by decide) (by unfold maxLen; omega) (by omega) (by simp; omega) (wr.heap.size + 2) (by simp) ?_); intro g1 cap1 w3 hown3 hgrow3 hat3 hlt3))
          have HB3 : Hid (Below w.heap.size w w3) := ((HT.out.below.alloc HT.out.below.size _).alloc (by simp; omega) _).grown hgrow3 (by simp; omega) (fun j hj => by have := own_base hown j hj; omega)
          have HM3 : Hid (w3.ownsMap Try.prog 9 (plainElem Try.prog 3) w.heap.size n D) := ownsMap_of_block ((hmap.alloc _).alloc _) (hgrow3.block w.heap.size (by simp; omega) (fun e => by have := own_base hown _ e.symm; omega))
          clear hgrow3
          go_roundw
          case rel => exact ⟨k + 1, by omega, by go_num, ⟨by rw [hraw.out]; simpa [ints] using hown3, HM3.out, HB3.out⟩⟩
          case measure => simp [intOf]; omega
      · have hraw : Hid (rawTo l (k + 1) = rawTo l k) := rawTo_none hlk (by unfold unitOf; rw [if_neg (by simpa using hk3)])
        go_wp2
        go_roundw
        case rel => exact ⟨k + 1, by omega, by go_num, ⟨by rw [hraw.out]; exact hown.alloc _, hmap.alloc _, HT.out.below.alloc HT.out.below.size _⟩⟩
        case measure => simp [intOf]; omega
    · have hkn : Hid (k = n) := by show k = n; omega
      have hfin : Hid (Lib.compact (sortedI (rawTo l k)) = refTo l n) := by
        show _ = _
        rw [hkn.out, hlen.out]; exact units_eq l
      have hle : (rawTo l k).length ≤ n := by have := rawTo_le l k; omega
      have HB : Hid (Below w.heap.size w wr) := HT.out.below
      rcases HT.out.own.2 with ⟨hv, h0⟩ | ⟨g, cap', cur, hv, hg, hh, hnc, hm, hsz, hcur⟩
      · have hz : Hid (refTo l n = []) := by
          show _ = _
          rw [← hfin.out, List.length_eq_zero_iff.1 h0]
          simp [sortedI, Lib.compact, Lib.compactUpTo]
        clear h0 HT
        subst hv
        go_wp2_with fail
        refine (Try.slices_Sort_int_none _ _ _).mono ?_
        rintro e w5 ⟨rfl, hw5⟩
        rw [hw5]
        clear hw5
        go_wp2_with fail
        refine (Try.slices_Compact_int_empty _ _ _).mono ?_
        rintro e w6 ⟨rfl, hw6⟩
        rw [hw6]
        clear hw6
        go_wp2
        go_ret
        exact ⟨none, 0, 0, rfl, ⟨by rw [hz.out]; rfl, Nat.zero_le _, fun j hj => absurd hj (by rw [hz.out]; simp)⟩, HB.out⟩
      · have hH : Hid (Sort.Holds (Value.int .i64) wr g 0 (rawTo l k).toArray) := holds_of_owns hh hcur
        have hgl : g < wr.heap.size := by
          rcases Nat.lt_or_ge g wr.heap.size with hlt | hge
          · exact hlt
          · rw [Array.getElem?_eq_none hge] at hh; cases hh
        clear hh hcur hsz HT
        subst hv
        go_wp2_with fail
        refine (Try.slices_Sort_int g 0 cap' (rawTo l k) _ hH.out hgl (by omega)).mono ?_
        rintro e w5 ⟨rfl, q5, os5, hw5⟩
        have hlen5 : Hid ((sortedI (rawTo l k)).length = (rawTo l k).length) := List.length_mergeSort _
        have hH5 : Hid (Sort.Holds (Value.int .i64) w5 g 0 (sortedI (rawTo l k)).toArray) := by
          show Sort.Holds _ _ _ _ _
          rw [hw5]
          exact Sort.holds_grow _ _ _ _ _ _ (by simpa using hgl) (Sort.holds_putRow _ _ _ _ (rawTo l k).toArray _ (Sort.holds_ahead _ _ _ _ _ _ hH.out) (by simp))
        have HB5 : Hid (Below w.heap.size w w5) := by
          show Below _ _ _
          rw [hw5]
          exact below_grow (below_putRow HB.out (by omega) _ _ _) (by have := HB.out.size; simp; omega) _
        clear hw5
        have hc5 := Try.slices_Compact_int g 0 cap' (sortedI (rawTo l k)) w5 hH5.out (by rw [hlen5.out]; omega) (by rw [hlen5.out]; exact hnc)
        rw [hlen5.out] at hc5
        have HC : Hid (Calls Try.prog 41 #[.slice (some ⟨g, 0, none⟩) (rawTo l k).length cap'] w5 fun e w' => e = .returned (.slice (some ⟨g, 0, none⟩) (Lib.compact (sortedI (rawTo l k))).length cap') ∧ ∃ q, w' = Sort.putRow (Value.int .i64) (Sort.ahead w5 q) g 0 (Lib.compact (sortedI (rawTo l k)) ++ List.replicate ((rawTo l k).length - (Lib.compact (sortedI (rawTo l k))).length) 0).toArray) := hc5
        clear hc5
        go_wp2_with fail
        refine HC.out.mono ?_
        rintro e w6 ⟨rfl, q6, hw6⟩
        have hcl : Hid ((Lib.compact (sortedI (rawTo l k))).length ≤ (rawTo l k).length) := by
          show _ ≤ _
          rw [← hlen5.out]
          unfold Lib.compact Lib.compactUpTo
          rw [List.length_map]
          exact Nat.le_trans (List.length_filter_le _ _) (by simp)
        have hH6 : Hid (Sort.Holds (Value.int .i64) w6 g 0 (Lib.compact (sortedI (rawTo l k)) ++ List.replicate ((rawTo l k).length - (Lib.compact (sortedI (rawTo l k))).length) 0).toArray) := by
          show Sort.Holds _ _ _ _ _
          rw [hw6]
          exact Sort.holds_putRow _ _ _ _ (sortedI (rawTo l k)).toArray _ (Sort.holds_ahead _ _ _ _ _ _ hH5.out) (by have := hcl.out; have := hlen5.out; simp; omega)
        have HB6 : Hid (Below w.heap.size w w6) := by
          show Below _ _ _
          rw [hw6]
          exact below_putRow HB5.out (by omega) _ _ _
        clear hw6
        go_wp2
        go_ret
        refine ⟨some ⟨g, 0, none⟩, _, cap', rfl, ⟨by rw [hfin.out], by have := hcl.out; unfold maxLen; omega, fun j hj => ⟨g, rfl, by omega, ?_⟩⟩, HB6.out⟩
        have hj' : j < (Lib.compact (sortedI (rawTo l k))).length := by rw [hfin.out]; exact hj
        have hh6 := hH6.out j (by simp; omega)
        rw [Nat.zero_add, getElem!_pos _ j (by simp; omega)] at hh6
        simp only [List.getElem_toArray, List.getElem_append_left hj'] at hh6
        have e2 : (Lib.compact (sortedI (rawTo l k)))[j] = (refTo l n)[j] := by simp only [hfin.out]
        rw [e2] at hh6
        exact hh6
end Go.Proofs.Ytplekhfnidhcoaa
/- Of of the program. -/
namespace Go.Proofs.Ytplekhfnidhcoaa
open Go.RowKit Go.Shelf Go.Deep

theorem findL_on (F : Nat → Bool) (l : List Sym) (nm : ByteArray) : findL (onL F l) nm = findL l nm := by
  unfold findL
  have hn : (onL F l).map Sym.name = l.map Sym.name := by
    refine List.ext_getElem (by simp [onL_len]) (fun i h1 h2 => ?_)
    have hi : i < l.length := by simpa [onL_len] using h1
    rw [List.getElem_map, List.getElem_map, onL_at, sG_at hi]
    unfold onS
    split <;> rfl
  have key : ∀ (a b : List Sym), a.map Sym.name = b.map Sym.name → a.findIdx? (fun x => sameB x.name nm) = b.findIdx? (fun x => sameB x.name nm) := by
    intro a
    induction a with
    | nil => intro b h; cases b with
      | nil => rfl
      | cons y b => simp at h
    | cons x a ih => intro b h; cases b with
      | nil => simp at h
      | cons y b =>
        simp only [List.map_cons, List.cons.injEq] at h
        rw [List.findIdx?_cons, List.findIdx?_cons, h.1, ih b h.2]
  exact key _ _ hn
/-- The unit of a symbol that is marked, or none. -/
theorem unitAt_on {F : Nat → Bool} {l : List Sym} {k : Nat} (hk : k < l.length) : unitAt (onL F l) (k : Int) = if F k then unitAt l (k : Int) else none := by
  have hk2 : k < (onL F l).length := by rw [onL_len]; exact hk
  cases hF : F k
  · rw [if_neg (by simp)]
    refine unit_not hk2 ?_
    rw [onL_at, hF]
    show (1 : Int) ≠ 3
    decide
  · rw [if_pos rfl]
    have he : (onL F l)[k] = l[k] := by rw [onL_at, hF, sG_at hk]; rfl
    by_cases h3 : l[k].kind = 3
    · rw [unit_is hk2 (by rw [he]; exact h3), unit_is hk h3, he, findL_on]
    · rw [unit_not hk2 (by rw [he]; exact h3), unit_not hk h3]
theorem Try.info4 : (Try.prog.info? 4).map (fun i => (i.zero, i.size, i.bytes)) = some (some (.bool false), 1, 1) := by kernel_rfl
theorem make_bools (n : Nat) (hn : n ≤ 2932031007317) (w : World) : (Instr.makeSlice 56 (.int .i64 (n : Int)) (.int .i64 (n : Int))).run Try.prog w = .ok (.slice (some ⟨w.heap.size, 0, none⟩) n n) (w.alloc (.cells (madeCells #[.bool false] n) 4)) :=
  run_make_row' (P := Try.prog) 56 4 (.bool false) 1 Try.underlying56 Try.info4 rfl .i64 .i64 n (by omega) (by omega) w
theorem bo_new (w : World) (n : Nat) : BoAt (w.alloc (.cells (madeCells #[.bool false] n) 4)) w.heap.size n (fun _ => false) := by
  refine ⟨_, World.alloc_heap_new w _, fun i hi => ?_⟩
  have hs : i < (madeCells #[Value.bool false] n).size := by simp [madeCells]; exact hi
  rw [Array.getElem?_eq_getElem hs]
  simp [madeCells, Nat.mod_one]
/-- Does a symbol stand in one of the two? -/
def stB (x1 : ByteArray × Int) (l1 : Fo) (x2 : ByteArray × Int) (l2 : Fo) (q : Nat) : Bool := stR (q : Int) x1 l1 || stR (q : Int) x2 l2
theorem ints_rd {w : World} {base : Nat} {a : Option Addr} {n : Nat} {zs : List Int} (h : IntsZ w base a n zs) : IntsAt w a zs := ⟨by have := h.len; have := h.small; omega, fun i hi => let ⟨b, e1, _, e2, _⟩ := h.cells i hi; ⟨b, 0, e1, by rw [Nat.zero_add]; exact e2⟩⟩
set_option maxRecDepth 100000 in
set_option maxHeartbeats 4000000 in
theorem of_any (p : Option Addr) (n c : Nat) (l : List Sym) (x1 : ByteArray × Int) (l1 : Fo) (a1 : Option Addr) (c1 : Nat) (x2 : ByteArray × Int) (l2 : Fo) (a2 : Option Addr) (c2 : Nat) (w : World) (hI : SigAt w p n l) (hn : n ≤ 2932031007317) (h1 : TmAt w x1 a1 c1 l1) (h2 : TmAt w x2 a2 c2 l2) :
    Calls Try.prog 10 #[.slice p n c, .agg #[.string x1.1, .int .i64 x1.2, .slice a1 (lenF l1) c1], .agg #[.string x2.1, .int .i64 x2.2, .slice a2 (lenF l2) c2]] w fun e w' => ∃ q d, e = .returned (.slice q (refTo (onL (stB x1 l1 x2 l2) l) n).length d) ∧ IntsAt w' q (refTo (onL (stB x1 l1 x2 l2) l) n) ∧ Below w.heap.size w w' := by
  have HI := hid hI; have H1 := hid h1; have H2 := hid h2
  have tb1 := (TBox.new w x1 a1 (lenF l1) c1)
  have b1 : Box ((w.alloc (.cells #[.string x1.1, .int .i64 x1.2, .slice a1 (lenF l1) c1] 26)).alloc (.cells #[.string x2.1, .int .i64 x2.2, .slice a2 (lenF l2) c2] 26)) w.heap.size 26 #[.string x1.1, .int .i64 x1.2, .slice a1 (lenF l1) c1] := (Box.new w 26 _).over _
  have b2 := Box.new (w.alloc (.cells #[.string x1.1, .int .i64 x1.2, .slice a1 (lenF l1) c1] 26)) 26 #[.string x2.1, .int .i64 x2.2, .slice a2 (lenF l2) c2]
  rw [World.size_alloc] at b2
  have hlow : Below w.heap.size w ((w.alloc (.cells #[.string x1.1, .int .i64 x1.2, .slice a1 (lenF l1) c1] 26)).alloc (.cells #[.string x2.1, .int .i64 x2.2, .slice a2 (lenF l2) c2] 26)) := ((Below.refl _ w).alloc (Nat.le_refl _) _).alloc (by simp) _
  have hsz : ((w.alloc (.cells #[.string x1.1, .int .i64 x1.2, .slice a1 (lenF l1) c1] 26)).alloc (.cells #[.string x2.1, .int .i64 x2.2, .slice a2 (lenF l2) c2] 26)).heap.size = w.heap.size + 1 + 1 := by simp only [World.size_alloc]
  have hmk := make_bools n hn ((w.alloc (.cells #[.string x1.1, .int .i64 x1.2, .slice a1 (lenF l1) c1] 26)).alloc (.cells #[.string x2.1, .int .i64 x2.2, .slice a2 (lenF l2) c2] 26))
  have hbo := bo_new ((w.alloc (.cells #[.string x1.1, .int .i64 x1.2, .slice a1 (lenF l1) c1] 26)).alloc (.cells #[.string x2.1, .int .i64 x2.2, .slice a2 (lenF l2) c2] 26)) n
  have bm := alloc_below0 ((w.alloc (.cells #[.string x1.1, .int .i64 x1.2, .slice a1 (lenF l1) c1] 26)).alloc (.cells #[.string x2.1, .int .i64 x2.2, .slice a2 (lenF l2) c2] 26)) (.cells (madeCells #[.bool false] n) 4)
  rw [hsz] at hmk hbo bm
  have HX1 := hid (b1.over (.cells (madeCells #[.bool false] n) 4)); have HX2 := hid (b2.over (.cells (madeCells #[.bool false] n) 4)); have HBO := hid hbo
  have HLW := hid (hlow.trans (bm.mono (by omega)))
  clear hI h1 h2 tb1 b1 b2 hlow hsz hbo bm
  go_enter Try.func10, Try.ntmps10
  go_upto_region 1 with fail
  generalize (w.alloc (.cells #[.string x1.1, .int .i64 x1.2, .slice a1 (lenF l1) c1] 26)).alloc (.cells #[.string x2.1, .int .i64 x2.2, .slice a2 (lenF l2) c2] 26) = W0 at hmk HX1 HX2 HBO HLW ⊢
  go_upto_region 2 with fail
  clear hmk
  generalize W0.alloc (.cells (madeCells #[.bool false] n) 4) = W1 at HX1 HX2 HBO HLW ⊢
  have t0 : W1.cell? ⟨w.heap.size, 0, none⟩ = some (.string x1.1) := HX1.out.c 0
  have t1 : W1.cell? ⟨w.heap.size, 1, none⟩ = some (.int .i64 x1.2) := HX1.out.c 1
  have t2 : W1.cell? ⟨w.heap.size, 2, none⟩ = some (.slice a1 (lenF l1) c1) := HX1.out.c 2
  go_wp2_with fail
  refine (mark_all (nodesF l1) _ n w _ x1 l1 a1 c1 W1 (Nat.le_refl _) H1.out HLW.out (by omega) (by omega) HBO.out).mono ?_
  rintro e w2 ⟨⟨v9, rfl⟩, hb2, hf2⟩
  have HX2b := hid (HX2.out.fr hf2 (by omega))
  have HL2 := hid (HLW.out.trans (hf2.below (fun q hq => by omega) HLW.out.size))
  have HB2 := hid hb2
  clear hb2 hf2 t0 t1 t2 HX1 HX2 HBO
  have t0 : w2.cell? ⟨w.heap.size + 1, 0, none⟩ = some (.string x2.1) := HX2b.out.c 0
  have t1 : w2.cell? ⟨w.heap.size + 1, 1, none⟩ = some (.int .i64 x2.2) := HX2b.out.c 1
  have t2 : w2.cell? ⟨w.heap.size + 1, 2, none⟩ = some (.slice a2 (lenF l2) c2) := HX2b.out.c 2
  go_wp2_with fail
  refine (mark_all (nodesF l2) _ n w _ x2 l2 a2 c2 w2 (Nat.le_refl _) H2.out HL2.out (by omega) (by omega) HB2.out).mono ?_
  rintro e w3 ⟨⟨v8, rfl⟩, hb3, hf3⟩
  have HL3 := hid (HL2.out.trans (hf3.below (fun q hq => by omega) HL2.out.size))
  have HB3 : Hid (BoAt w3 (w.heap.size + 1 + 1) n (stB x1 l1 x2 l2)) := hid (hb3.ext (fun q hq => by unfold stB; rw [Bool.false_or]))
  clear hb3 hf3 t0 t1 t2 HX2b HB2
  go_wp2_with fail
  refine (only_any p n c l (stB x1 l1 x2 l2) _ w3 (HI.out.below HL3.out) hn HB3.out).mono ?_
  rintro e w4 ⟨q4, d4, rfl, hs4, hb4⟩
  have HS4 := hid hs4; have HL4 := hid (HL3.out.trans (hb4.mono HL3.out.size))
  clear hs4 hb4
  go_wp2_with fail
  refine (sunits_any q4 n d4 (onL (stB x1 l1 x2 l2) l) w4 HS4.out (by omega)).mono ?_
  rintro e w5 ⟨a', m, cap', rfl, hz5, hb5⟩
  obtain rfl := hz5.len
  have HZ5 := hid (ints_rd hz5); have HL5 := hid (HL4.out.trans (hb5.mono HL4.out.size))
  clear hz5 hb5
  go_wp2
  go_ret
  exact ⟨_, _, rfl, HZ5.out, HL5.out⟩
end Go.Proofs.Ytplekhfnidhcoaa
/- The binds of a way are a substitution, plainly. -/
namespace Go.Proofs.Ytplekhfnidhcoaa
open Go.RowKit Go.Shelf Go.Deep

/-- A unit of a right signature, as a term. -/
theorem unit_right {l : List Sym} (h : checkE l = 0) {f : Int} {i : Nat} (hu : unitAt l f = some i) : rightB l (kT (i : Int)) = true ∧ exN (canonT (sgOf l) (kT (i : Int))).1 (kT (i : Int)).1 (canonT (sgOf l) (kT (i : Int))).2 (kT (i : Int)).2 = true := by
  obtain ⟨hi, hk, ha⟩ := unit_facts h hu
  have hno : noName (⟨#[]⟩ : ByteArray) = true := by decide +kernel
  have hj : (sgOf l).joins (i : Int) = false := by
    show joinsAt l (i : Int) = false
    unfold joinsAt
    rw [symAt_in hi]
    simp [hk]
  have hc : canonT (sgOf l) (kT (i : Int)) = ((noB, (i : Int)), .nil) := by
    unfold canonT kT canon1
    rw [if_neg (by rw [hno]; decide), if_neg (by rw [hj]; decide)]
    rfl
  refine ⟨?_, ?_⟩
  · unfold rightB
    rw [h]
    have he : errT l (kT (i : Int)).1 (kT (i : Int)).2 = 0 := by
      unfold errT
      have hn : nodeErr l (kT (i : Int)).1 (lenF (kT (i : Int)).2) = 0 := by
        rw [nodeErr_in hno (by show (0 : Int) ≤ (i : Int); omega) (by show ((i : Int)).toNat < l.length; omega)]
        have e : l[((kT (i : Int)).1.2).toNat]'(by show ((i : Int)).toNat < l.length; omega) = l[i] := by rfl
        rw [e]
        have : takesB l[i] (lenF (kT (i : Int)).2) = true := by
          unfold takesB
          simp [hk, ha, kT, lenF]
        rw [if_pos this]
      rw [hn]
      rfl
    rw [he]
    rfl
  · rw [hc]
    unfold exN
    have e1 : ((noB : ByteArray).toList == ((kT (i : Int)).1.1).toList) = true := by
      have : noB.toList = ((kT (i : Int)).1.1).toList := by
        show noB.toList = (⟨#[]⟩ : ByteArray).toList
        decide +kernel
      rw [this]; simp
    rw [e1]
    simp [kT, lenF, exF]
/-- The variables of a right term. -/
theorem name_right {l : List Sym} {x : ByteArray × Int} {n : Nat} (h : nodeErr l x n = 0) : ∀ nm ∈ namesN x, varB ⟨nm.toArray⟩ = true := by
  intro nm hnm
  unfold namesN at hnm
  split at hnm
  · cases hnm
  · rename_i hno
    rw [List.mem_singleton] at hnm
    subst hnm
    unfold nodeErr at h
    rw [if_pos (by simpa using hno)] at h
    unfold varErr at h
    split at h
    · rename_i hv
      have e : (⟨x.1.data.toList.toArray⟩ : ByteArray) = x.1 := by rw [Array.toArray_toList]
      rw [e]
      simp_all
    · first | omega | simp_all
theorem names_right {l : List Sym} : ∀ {F : Fo}, errF l F = 0 → ∀ nm ∈ namesFo F, varB ⟨nm.toArray⟩ = true
  | .nil, _, nm, h => by cases h
  | .node _ _ x m r, he, nm, h => by
    rw [errF] at he
    obtain ⟨h1, h2⟩ := then_zero he
    obtain ⟨h3, h4⟩ := then_zero h1
    unfold namesFo at h
    simp only [List.mem_append] at h
    rcases h with (h | h) | h
    · exact name_right h3 nm h
    · exact names_right h4 nm h
    · exact names_right h2 nm h
/-- The names of both terms, rising, each once. -/
def varsB (x1 : ByteArray × Int) (l1 : Fo) (x2 : ByteArray × Int) (l2 : Fo) : List Nm := Lib.compact (sortL (Lib.compact (sortL (namesT x1 l1)) ++ Lib.compact (sortL (namesT x2 l2))))
def bytesOf (nm : Nm) : ByteArray := ⟨nm.toArray⟩
theorem bytes_list (nm : Nm) : (bytesOf nm).toList = nm := by unfold bytesOf; rw [ByteArray.toList_eq]
theorem vars_right {l : List Sym} {x1 : ByteArray × Int} {l1 : Fo} {x2 : ByteArray × Int} {l2 : Fo} (h1 : errT l x1 l1 = 0) (h2 : errT l x2 l2 = 0) : ∀ nm ∈ varsB x1 l1 x2 l2, varB (bytesOf nm) = true := by
  intro nm h
  unfold varsB at h
  rw [(vars_ss _).2, List.mem_append, (vars_ss _).2, (vars_ss _).2] at h
  have one : ∀ {x : ByteArray × Int} {m : Fo}, errT l x m = 0 → nm ∈ namesT x m → varB (bytesOf nm) = true := fun he hm => by
    unfold errT at he
    obtain ⟨h3, h4⟩ := then_zero he
    unfold namesT at hm
    rcases List.mem_append.1 hm with hm | hm
    · exact name_right h3 nm hm
    · exact names_right h4 nm hm
  rcases h with h | h
  · exact one h1 h
  · exact one h2 h
theorem ltN_lt {a b : Nm} (h : LtN a b) : a < b := by
  have h1 := less_bytes a b
  unfold LtN at h
  rw [h, decide_eq_true rfl, bytesLess_eq] at h1
  exact of_decide_eq_true h1
theorem vars_rise (x1 : ByteArray × Int) (l1 : Fo) (x2 : ByteArray × Int) (l2 : Fo) : Rise ((varsB x1 l1 x2 l2).map bytesOf) := by
  unfold Rise
  refine List.pairwise_map.2 ?_
  have := (vars_ss (Lib.compact (sortL (namesT x1 l1)) ++ Lib.compact (sortL (namesT x2 l2)))).1
  exact this.imp (fun {a b} h => by rw [bytes_list, bytes_list]; exact ltN_lt h)
theorem wayO_name {us : List Int} {vs : List ByteArray} (k : Int) : ∀ x ∈ (wayO us vs k).1, x.1 ∈ vs := by
  intro x hx
  unfold wayO at hx
  split at hx
  · cases hx
  · split at hx
    · have hs := wayR_sub us vs.reverse k.toNat
      rw [List.reverse_reverse] at hs
      exact hs.subset (List.mem_map.2 ⟨x, hx, rfl⟩)
    · cases hx
/-- Each way's binds are a substitution. -/
theorem way_good {l : List Sym} {F : Nat → Bool} {x1 : ByteArray × Int} {l1 : Fo} {x2 : ByteArray × Int} {l2 : Fo} (h1 : rightB l (x1, l1) = true) (h2 : rightB l (x2, l2) = true) (k : Int) : GoodB l (wayO (refTo (onL F l) l.length) ((varsB x1 l1 x2 l2).map bytesOf) k).1 := by
  unfold rightB at h1 h2
  simp only [Bool.and_eq_true, beq_iff_eq] at h1 h2
  refine ⟨fun x hx => ?_, fun x hx => ?_, fun i hi => wayO_rise k (vars_rise x1 l1 x2 l2) i hi⟩
  · obtain ⟨nm, hnm, e⟩ := List.mem_map.1 (wayO_name k x hx)
    have hv := vars_right h1.2 h2.2 nm hnm
    rw [e] at hv
    refine ⟨hv, ?_⟩
    unfold varB at hv
    rw [Bool.and_eq_true] at hv
    have := hv.1
    unfold fitsB at this
    simp only [Bool.and_eq_true, decide_eq_true_eq] at this
    unfold maxLen
    omega
  · have hu := wayO_sym k x hx
    rw [show l.length = (onL F l).length by rw [onL_len]] at hu
    obtain ⟨q, i, hq, hu2, e⟩ := (mem_ref _).1 hu
    rw [onL_len] at hq
    rw [unitAt_on hq] at hu2
    split at hu2
    · rw [e]
      exact unit_right h1.1 hu2
    · cases hu2
end Go.Proofs.Ytplekhfnidhcoaa
/- The live question. -/
namespace Go.Proofs.Ytplekhfnidhcoaa
open Go.RowKit Go.Shelf Go.Deep

theorem two_ints (w : World) (a b : Int) (W : World) (h : Box W w.heap.size 3 #[.int .i64 a, .int .i64 b]) : IntsAt W (some ⟨w.heap.size, 0, none⟩) [a, b] :=
  ⟨by simp [maxLen], fun i hi => ⟨w.heap.size, 0, rfl, by
    match i, hi with
    | 0, _ => exact h.c 0
    | 1, _ => exact h.c 1⟩⟩
theorem two_strs (g : Nat) (a b : ByteArray) (W : World) (h : Box W g 9 #[.string a, .string b]) : StrsAt W (some ⟨g, 0, none⟩) [a, b] :=
  ⟨by simp [maxLen], fun i hi => ⟨g, 0, rfl, by
    match i, hi with
    | 0, _ => exact h.c 0
    | 1, _ => exact h.c 1⟩⟩
theorem way_head : wayO [1, 5] [⟨#[88]⟩, ⟨#[89]⟩] 5 = ([(⟨#[88]⟩, 1), (⟨#[89]⟩, 5)], true) := rfl
theorem many_head : manyO 2 2 100 = 9 := by decide
set_option maxRecDepth 100000 in
set_option maxHeartbeats 4000000 in
theorem head_any (w : World) : Calls Try.prog 8 #[] w fun e w' => e = .returned (.bool true) ∧ Below w.heap.size w w' := by
  have b1 := (Box.new w 3 #[.int .i64 1, .int .i64 5]).over (.cells #[.string ⟨#[88]⟩, .string ⟨#[89]⟩] 9)
  have b2 := Box.new (w.alloc (.cells #[.int .i64 1, .int .i64 5] 3)) 9 #[.string ⟨#[88]⟩, .string ⟨#[89]⟩]
  rw [World.size_alloc] at b2
  have hlow : Below w.heap.size w ((w.alloc (.cells #[.int .i64 1, .int .i64 5] 3)).alloc (.cells #[.string ⟨#[88]⟩, .string ⟨#[89]⟩] 9)) := ((Below.refl _ w).alloc (Nat.le_refl _) _).alloc (by simp) _
  have HC := hid (way_any (some ⟨w.heap.size, 0, none⟩) 2 [1, 5] (some ⟨w.heap.size + 1, 0, none⟩) 2 [⟨#[88]⟩, ⟨#[89]⟩] 5 _ (two_ints w 1 5 _ b1) (two_strs _ _ _ _ b2) (by decide) (by decide) (by unfold Is64; omega))
  rw [way_head] at HC
  have HL := hid hlow
  have HM := hid (fun (p q : Option Addr) (W : World) => many_any p 2 2 q 2 2 100 (by decide) (by decide) (by unfold Is64; omega) W)
  rw [many_head] at HM
  clear b1 b2 hlow
  go_enter Try.func8, Try.ntmps8
  go_wp2_with fail
  refine HC.out.mono ?_
  rintro e w1 ⟨v, rfl, hown, hb⟩
  have HB := hid (HL.out.trans (hb.mono HL.out.size))
  rcases hown.cases with ⟨_, h9⟩ | ⟨g, cap, rfl, _⟩
  · cases h9
  have hat := hown.rd (by simp [maxLen])
  obtain ⟨bb, o, hp, h0⟩ := hat.cells 0 (by simp)
  obtain ⟨bb1, o1, hp1, h1⟩ := hat.cells 1 (by simp)
  cases hp
  cases hp1
  have x0 := h0.var; have x1 := h0.sym; have x2 := h1.sym
  dsimp only [List.getElem_cons_zero, List.getElem_cons_succ] at x0 x1 x2
  clear hat h0 h1 hown HC HL hb
  go_wp2_with fail
  refine (HM.out _ _ _).mono ?_
  rintro e w2 ⟨rfl, rfl⟩
  have HB2 : Hid (Below w.heap.size w ((w1.alloc (.cells #[.int .i64 1, .int .i64 5] 3)).alloc (.cells #[.string ⟨#[88]⟩, .string ⟨#[89]⟩] 9))) := hid (HB.out.trans ((((Below.refl _ w1).alloc (Nat.le_refl _) _).alloc (by simp) _).mono HB.out.size))
  clear x0 x1 x2 HM
  go_wp2
  go_ret
  exact ⟨rfl, HB2.out⟩
end Go.Proofs.Ytplekhfnidhcoaa
/- The document's Same of rows of binds to constants. -/
namespace Go.Proofs.Ytplekhfnidhcoaa
open Go.RowKit Go.Shelf Go.Deep

theorem toList_iff {a b : ByteArray} : a.toList = b.toList ↔ a = b := ⟨fun h => by rw [ByteArray.toList_eq, ByteArray.toList_eq] at h; exact ByteArray.ext (Array.toList_inj.1 h), fun h => by rw [h]⟩
theorem drop_ne {l m : List Bl} {j : Nat} (h1 : j < l.length) (h2 : j < m.length) (h : l[j] ≠ m[j]) : l ≠ m := fun e => h (by subst e; rfl)
set_option maxRecDepth 100000 in
set_option maxHeartbeats 4000000 in
/-- The document's Same. -/
theorem rsame_any (pa : Option Addr) (ca : Nat) (xs : List Bl) (pb : Option Addr) (cb : Nat) (ys : List Bl) (w : World) (hA : BlAt w pa xs) (hB : BlAt w pb ys) :
    Calls Try.prog 15 #[.slice pa xs.length ca, .slice pb ys.length cb] w fun e w' => e = .returned (.bool (decide (xs = ys))) ∧ Below w.heap.size w w' := by
  have HA := hid hA; have HB := hid hB
  have hna : xs.length ≤ 9223372036854775807 := hA.small
  have hnb : ys.length ≤ 9223372036854775807 := hB.small
  clear hA hB
  by_cases hl : xs.length = ys.length
  · obtain ⟨R, hR⟩ : ∃ R, decide (xs = ys) = R := ⟨_, rfl⟩
    rw [hR]
    have HR := hid hR
    have HLN := hid hl
    obtain ⟨n, hn⟩ : ∃ n, ys.length = n := ⟨_, rfl⟩
    rw [hn] at hl hnb ⊢
    rw [hl]
    have HN := hid hn
    clear hR hn hl hna
    go_enter Try.func15, Try.ntmps15
    go_wp2_with fail
    go_loopw [5, 6] (fun iv _ wr => ∃ j : Nat, j ≤ n ∧ iv = .int .i64 j ∧ xs.take j = ys.take j ∧ Below w.heap.size w wr) (fun iv _ _ => n - (intOf iv).toNat)
    case atStart => exact ⟨0, Nat.zero_le _, rfl, rfl, Below.refl _ _⟩
    case round =>
      obtain ⟨j, hj, rfl, hs, hlow⟩ := hrel
      have HW := hid hlow; have HS := hid hs
      clear hlow hs
      by_cases hlt : j < n
      · have hja : j < xs.length := by rw [HLN.out, HN.out]; exact hlt
        have hjb : j < ys.length := by rw [HN.out]; exact hlt
        obtain ⟨b1, o1, rfl, hbd⟩ := (HA.out.below HW.out).cells j hja
        obtain ⟨b2, o2, rfl, hbd2⟩ := (HB.out.below HW.out).cells j hjb
        obtain ⟨⟨vx, s⟩, hy⟩ : ∃ y, xs[j] = y := ⟨_, rfl⟩
        obtain ⟨⟨vy, t⟩, hy2⟩ : ∃ y, ys[j] = y := ⟨_, rfl⟩
        rw [hy] at hbd
        rw [hy2] at hbd2
        have HBD := hid hbd; have HBD2 := hid hbd2
        have HDN : Hid (vx ≠ vy ∨ s ≠ t → R = false) := hid fun hne => by
          rw [← HR.out]
          refine decide_eq_false (drop_ne hja hjb ?_)
          rw [hy, hy2]
          intro e
          injection e with e1 e2
          rcases hne with h | h
          · exact h e1
          · exact h e2
        have HEQ : Hid (vx = vy → s = t → xs.take (j + 1) = ys.take (j + 1)) := hid fun e1 e2 => by
          rw [List.take_succ_eq_append_getElem hja, List.take_succ_eq_append_getElem hjb, HS.out, hy, hy2, e1, e2]
        obtain ⟨cv, hcv⟩ : ∃ cv, decide (s = t) = cv := ⟨_, rfl⟩
        have hC : Hid (∀ w', Calls Try.prog 31 #[.agg #[.string ⟨#[]⟩, .int .i64 s, .slice none 0 0], .agg #[.string ⟨#[]⟩, .int .i64 t, .slice none 0 0]] w' fun e w'' => e = .returned (.bool cv) ∧ Below w'.heap.size w' w'') := hid fun w' => by
          rw [← hcv]
          exact rsame_leaf s t w'
        have HCV := hid hcv
        have hne := later_some wr
        have p1 := later_cell hbd.name; have p2 := later_cell hbd.sym; have p3 := later_cell hbd.list
        have q1 := later_cell hbd2.name; have q2 := later_cell hbd2.sym; have q3 := later_cell hbd2.list
        dsimp only at p1 p2 p3 q1 q2 q3
        have hk0 : (0 : Int) ≤ (j : Int) := by omega
        have hkn : (j : Int) < (n : Int) := by omega
        clear hbd hbd2 hy hy2 hcv hja hjb
        go_wp2_with fail
        refine wp_region_later (by kernel_rfl) (by kernel_rfl) ?_
        repeat (go_big_quiet_step ((exact calls_later (hC.out _))))
        refine wpQuiet_nil ?_
        intro _ hw'
        obtain ⟨b2', hw''⟩ := hw'
        subst hw''
        have HW2 : Hid (Below w.heap.size w b2'.now) := hid (HW.out.trans (b2'.below.mono HW.out.size))
        have r0 := later_cell (HBD.out.below b2'.below).var
        have s0 := later_cell (HBD2.out.below b2'.below).var
        dsimp only at r0 s0
        have hne2 := later_some b2'.now
        clear p1 p2 p3 q1 q2 q3 hC
        cases cv with
        | false =>
          have hst : s ≠ t := of_decide_eq_false HCV.out
          have hR := HDN.out (.inr hst)
          subst hR
          go_wp2_with fail
          refine wp_region_later (by kernel_rfl) (by kernel_rfl) ?_
          repeat (go_big_quiet_step (fail))
          refine wpQuiet_nil ?_
          intro _ hw'
          obtain ⟨b3, hw''⟩ := hw'
          subst hw''
          have HW3 := hid (HW2.out.trans (b3.below.mono HW2.out.size))
          clear r0 s0
          go_wp2
          go_ret
          exact ⟨rfl, HW3.out⟩
        | true =>
          have hst : s = t := of_decide_eq_true HCV.out
          have HST := hid hst
          clear hst
          by_cases he : vx.toList = vy.toList
          · have heb : (vx.toList == vy.toList) = true := by simp [he]
            have HTK := hid (HEQ.out (toList_iff.1 he) HST.out)
            go_wp2_with fail
            refine wp_region_later (by kernel_rfl) (by kernel_rfl) ?_
            repeat (go_big_quiet_step (fail))
            refine wpQuiet_nil ?_
            intro _ hw'
            obtain ⟨b3, hw''⟩ := hw'
            subst hw''
            have HW3 := hid (HW2.out.trans (b3.below.mono HW2.out.size))
            clear r0 s0
            go_wp2
            go_roundw
            case rel => exact ⟨j + 1, by omega, by go_num, HTK.out, HW3.out⟩
            case measure => simp [intOf]; omega
          · have heb : (vx.toList == vy.toList) = false := by simp [he]
            have hR := HDN.out (.inl (fun e => he (by rw [e])))
            subst hR
            go_wp2_with fail
            refine wp_region_later (by kernel_rfl) (by kernel_rfl) ?_
            repeat (go_big_quiet_step (fail))
            refine wpQuiet_nil ?_
            intro _ hw'
            obtain ⟨b3, hw''⟩ := hw'
            subst hw''
            have HW3 := hid (HW2.out.trans (b3.below.mono HW2.out.size))
            clear r0 s0
            go_wp2
            go_ret
            exact ⟨rfl, HW3.out⟩
      · have hR : R = true := by
          rw [← HR.out]
          have h5 := HS.out
          rw [List.take_of_length_le (by rw [HLN.out, HN.out]; omega), List.take_of_length_le (by rw [HN.out]; omega)] at h5
          exact decide_eq_true h5
        subst hR
        go_wp2
        go_ret
        exact ⟨rfl, HW.out⟩
  · have hd : decide (xs = ys) = false := decide_eq_false (fun e => hl (by rw [e]))
    rw [hd]
    have hl2 : ¬ ((xs.length : Int) = (ys.length : Int)) := by omega
    have hl3 : ((xs.length : Int) == (ys.length : Int)) = false := beq_eq_false_iff_ne.2 hl2
    clear hd
    go_enter Try.func15, Try.ntmps15
    go_wp2
    go_ret
    exact ⟨rfl, Below.refl _ _⟩
end Go.Proofs.Ytplekhfnidhcoaa
/- UnitsWays' walk. -/
namespace Go.Proofs.Ytplekhfnidhcoaa
open Go.RowKit Go.Shelf Go.Deep

theorem wayO_small (us : List Int) (vs : List ByteArray) (k : Int) (hk : Is64 k) : (wayO us vs k).1.length ≤ 63 := by
  obtain ⟨h1, h2⟩ := hk
  unfold wayO
  by_cases h : k < 0
  · rw [if_pos h]; exact Nat.zero_le _
  · rw [if_neg h]
    split
    · exact wayR_small us _ _ (by omega)
    · exact Nat.zero_le _
set_option maxRecDepth 100000 in
set_option maxHeartbeats 4000000 in
theorem ways_walk (pu : Option Addr) (cu : Nat) (us : List Int) (pv : Option Addr) (cv : Nat) (vs : List ByteArray) (pl : Option Addr) (cl : Nat) (ls : List Int) (w : World) (hU : IntsAt w pu us) (hV : StrsAt w pv vs) (hL : IntsAt w pl ls)
    (hu : us.length ≤ 17592186044416) (hv : vs.length ≤ 17592186044416) (hl : ls.length ≤ 17592186044416) (hk : ∀ x ∈ ls, Is64 x) :
    Calls Try.prog 4 #[.slice pu us.length cu, .slice pv vs.length cv, .slice pl ls.length cl] w fun e w' => e = .returned (.bool true) ∧ Below w.heap.size w w' := by
  obtain ⟨nu, hNU⟩ : ∃ n, us.length = n := ⟨_, rfl⟩
  obtain ⟨n, hN⟩ : ∃ n, vs.length = n := ⟨_, rfl⟩
  obtain ⟨m, hM⟩ : ∃ n, ls.length = n := ⟨_, rfl⟩
  have HU := hid hU; have HV := hid hV; have HL := hid hL; have HK := hid hk; have HM := hid hM
  have HW1 : Hid (∀ k, Is64 k → ∀ W, Below w.heap.size w W → Calls Try.prog 13 #[.slice pu nu cu, .slice pv n cv, .int .i64 k] W fun e w' => ∃ v, e = .returned (.tuple #[v, .bool (wayO us vs k).2]) ∧ BOwn w' W.heap.size v (wayO us vs k).1 ∧ Below W.heap.size W w') := hid (fun k hk W hW => by
    have := way_any pu cu us pv cv vs k W (hU.below hW) (hV.below hW) hu hv hk
    rw [hNU, hN] at this
    exact this)
  have HW2 : Hid (∀ k, Is64 k → ∀ W, Below w.heap.size w W → Calls Try.prog 14 #[.slice pu nu cu, .slice pv n cv, .int .i64 k] W fun e w' => ∃ v, e = .returned (.tuple #[v, .bool (wayO us vs k).2]) ∧ BOwn w' W.heap.size v (wayO us vs k).1 ∧ Below W.heap.size W w') := hid (fun k hk W hW => by
    have := rway_any pu cu us pv cv vs k W (hU.below hW) (hV.below hW) hu hv hk
    rw [hNU, hN] at this
    exact this)
  rw [hNU] at hu ⊢
  rw [hN] at hv ⊢
  rw [hM] at hl ⊢
  have hlz : (m : Int) ≤ 17592186044416 := by omega
  have HUZ := hid hu; have HVZ := hid hv
  clear hU hV hL hNU hN hM hk hu hv hl
  go_enter Try.func4, Try.ntmps4
  go_wp2_with fail
  refine (head_any _).mono ?_
  rintro e w1 ⟨rfl, hb1⟩
  have HB1 := hid hb1
  clear hb1
  go_wp2
  go_loopw [8] (fun iv wr => ∃ i : Nat, i ≤ m ∧ iv = .int .i64 i ∧ Below w.heap.size w wr) (fun iv _ => m - (intOf iv).toNat)
  case atStart => exact ⟨0, Nat.zero_le _, rfl, HB1.out⟩
  case round =>
    obtain ⟨i, hi, rfl, hlow⟩ := hrel
    have HLW := hid hlow
    clear hlow
    by_cases hlt : i < m
    · obtain ⟨b, o, rfl, hc⟩ := (HL.out.below HLW.out).cells i (by rw [HM.out]; exact hlt)
      obtain ⟨k, hkk⟩ : ∃ k, ls[i]'(by rw [HM.out]; exact hlt) = k := ⟨_, rfl⟩
      have hk64 := HK.out (ls[i]'(by rw [HM.out]; exact hlt)) (List.getElem_mem _)
      rw [hkk] at hc hk64
      have hk0 : (0 : Int) ≤ (i : Int) := by omega
      have hkn : (i : Int) < (m : Int) := by omega
      have HC := hid hc; have HK64 := hid hk64
      have hsm := wayO_small us vs k hk64
      clear hkk hk64
      go_wp2_with fail
      refine (HW1.out k HK64.out wr HLW.out).mono ?_
      rintro e w2 ⟨v1, rfl, ho1, hb2⟩
      have HLW2 := hid (HLW.out.trans (hb2.mono HLW.out.size))
      have HO1 := hid ho1
      have hc2 := below_cell hb2 _ _ HC.out
      have HC2 := hid hc2
      clear ho1 hb2 hc
      go_wp2_with fail
      refine (HW2.out k HK64.out w2 HLW2.out).mono ?_
      rintro e w3 ⟨v2, rfl, ho2, hb3⟩
      have HLW3 := hid (HLW2.out.trans (hb3.mono HLW2.out.size))
      have ho1' := HO1.out.below hb3
      have hc3 := below_cell hb3 _ _ HC2.out
      clear hc2 HO1
      obtain ⟨p1, c1, rfl⟩ := ho1'.form
      obtain ⟨p2, c2, rfl⟩ := ho2.form
      have HA := hid (ho1'.rd (by unfold maxLen; omega)); have HBB := hid (ho2.rd (by unfold maxLen; omega))
      obtain ⟨ok, hok⟩ : ∃ b, (wayO us vs k).2 = b := ⟨_, rfl⟩
      obtain ⟨xs, hxs⟩ : ∃ l, (wayO us vs k).1 = l := ⟨_, rfl⟩
      rw [hok]
      rw [hxs] at HA HBB ⊢
      obtain ⟨q, hq⟩ : ∃ q, xs.length = q := ⟨_, rfl⟩
      have HSM : Hid (∀ W, Below w3.heap.size w3 W → Calls Try.prog 15 #[.slice p1 q c1, .slice p2 q c2] W fun e w' => e = .returned (.bool true) ∧ Below W.heap.size W w') := hid (fun W hW => by
        have := rsame_any p1 c1 xs p2 c2 xs W (HA.out.below hW) (HBB.out.below hW)
        rw [hq, decide_eq_true rfl] at this
        exact this)
      rw [hq]
      obtain ⟨MM, hMM⟩ : ∃ x, manyO nu n k = x := ⟨_, rfl⟩
      have HM1 := hid (fun W => many_any pu nu cu pv n cv k HUZ.out HVZ.out HK64.out W)
      have HM2 := hid (fun W => rmany_any pu nu cu pv n cv k HUZ.out HVZ.out HK64.out W)
      rw [hMM] at HM1 HM2
      have hne := later_some w3
      have d0 := later_cell hc3
      have hbeq : (ok != ok) = false := by cases ok <;> rfl
      have hmeq : (MM != MM) = false := by simp
      clear hok hxs hq hMM ho1' ho2 hb3 hc3 hsm
      go_wp2_with fail
      refine wp_region_later (by kernel_rfl) (by kernel_rfl) ?_
      repeat (go_big_quiet_step ((first | (go_at_call 15; exact calls_later (HSM.out _ (Later.below _))) | (go_at_call 16; exact calls_later_same (HM1.out _)) | (go_at_call 17; exact calls_later_same (HM2.out _)) | fail)))
      refine wpQuiet_nil ?_
      intro _ hw'
      obtain ⟨b3, hw''⟩ := hw'
      subst hw''
      have HB2 := hid (HLW3.out.trans (b3.below.mono HLW3.out.size))
      clear d0
      go_wp2
      go_roundw
      case rel => exact ⟨i + 1, by omega, by go_num, HB2.out⟩
      case measure => simp [intOf]; omega
    · go_wp2
      go_ret
      exact ⟨rfl, HLW.out⟩
end Go.Proofs.Ytplekhfnidhcoaa
/- UnitsBinds' walk. -/
namespace Go.Proofs.Ytplekhfnidhcoaa
open Go.RowKit Go.Shelf Go.Deep

theorem step_append_run {P : Program} {ops : Array Oper} {o : Oper} {a : Act} {w : World} {K : Act → World → Prop} {Q : Exit → Act → World → Prop} {E : Prop} (hgd : o.guard = none) (s x : Operand) (t : TypeId)
    (ho : o.op = .call { callee := .builtin .append, args := #[s, x], argTypes := #[t, t] }) (vs vx : Value) (hs : a.eval s = vs) (hx : a.eval x = vx)
    (v' : Value) (w' : World) (hr : (Builtin.append_ #[t, t] o.type #[vs, vx]).run P w = .ok v' w') (h : K (a.put o.dst v') w') :
    if Region.wanted o (yielded ops a.tmps) = true then Oper.wp P o a w K Q else E := by
  have hw : Region.wanted o (yielded ops a.tmps) = true := by simp [Region.wanted, hgd]
  rw [if_pos hw]
  exact Lib.wp_append_run w s x t t ho vs vx hs hx v' w' hr h
/-- The names of one behind those of the other. -/
theorem app_texts {w : World} {b1 b2 : Nat} {v1 v2 : Value} {A B : List Nm} (h1 : w.ownsRow b1 9 1 v1 A.length (A.map encStr)) (h2 : w.ownsRow b2 9 1 v2 B.length (B.map encStr)) (hA : A.length ≤ 1048576) (hB : B.length ≤ 1048576) (hb : b1 ≤ w.heap.size) :
    ∃ p c w', (Builtin.append_ #[33, 33] 33 #[v1, v2]).run Try.prog w = .ok (.slice p (A ++ B).length c) w' ∧ (TextsAt w' p (A ++ B).length (A ++ B) ∧ True) ∧ w.grownBy w' v1.ownBlock := by
  obtain ⟨i0, hi0, hz0, hz1, hz2⟩ := info_parts Try.info9
  obtain ⟨a2, cap2, rfl, _, _, hT2, hnone, hsome⟩ := texts_of_owns h2
  cases a2 with
  | none =>
    obtain ⟨e1, e2⟩ := hnone rfl
    subst e2
    obtain ⟨a1, cap1, rfl, _, _, hT1, _⟩ := texts_of_owns h1
    have hBn : B = [] := List.eq_nil_of_length_eq_zero e1
    subst hBn
    rw [List.append_nil]
    exact ⟨a1, cap1, w, run_append_owned_none (P := Try.prog) (w := w) b1 33 33 9 i0 1 Try.underlying33 hi0 _ A.length _ h1, ⟨hT1, trivial⟩, World.grownBy.refl _ _⟩
  | some ad =>
    obtain ⟨g, off, sp⟩ := ad
    obtain ⟨_, rfl, rfl, _⟩ := hsome g off sp rfl
    obtain ⟨v', w', hr, h3, h4, _, _⟩ := run_append_own_at (P := Try.prog) w b1 33 33 9 i0 _ 1 16 Try.underlying33 hi0 hz0 hz1 hz2 rfl (by decide) v1 A.length _ h1 ⟨g, 0, none⟩ B.length cap2 (B.map encStr) (by simp) (fun j u hj => by
      rw [Addr.add_lit]
      exact owns_at h2 j u hj) (enc_one B) (by unfold maxLen; omega) (by omega) hb
    rw [← List.map_append, ← List.length_append] at h3
    obtain ⟨a3, cap3, rfl, _, _, hT3, _⟩ := texts_of_owns h3
    exact ⟨a3, cap3, w', hr, ⟨hT3, trivial⟩, h4⟩
theorem many_small (u n : Nat) : ∃ M : Nat, manyO u n 1099511627776 = (M : Int) ∧ 1 ≤ M ∧ M ≤ 1099511627776 ∧ ∀ k : Nat, k < M → k < (u + 1) ^ n := by
  have hp : 0 < (u + 1) ^ n := Nat.pow_pos (by omega)
  unfold manyO
  rw [if_neg (by omega)]
  by_cases h : ((u + 1) ^ n : Nat) ≤ (1099511627776 : Int).toNat
  · rw [if_pos h]
    exact ⟨_, rfl, by omega, by omega, fun k hk => hk⟩
  · rw [if_neg h]
    exact ⟨1099511627776, rfl, by omega, by omega, fun k hk => by omega⟩
theorem upTo_len (d : Array Nm) (m : Nat) : (Lib.compactUpTo d m).length ≤ m := by
  unfold Lib.compactUpTo
  rw [List.length_map]
  exact Nat.le_trans (List.length_filter_le _ _) (by simp)
theorem compact_len (ss : List Nm) : (Lib.compact (sortL ss)).length ≤ ss.length := by
  have h1 : (sortL ss).length = ss.length := by unfold sortL; simp
  unfold Lib.compact
  refine Nat.le_trans (upTo_len _ _) ?_
  simp [h1]
theorem texts_strs {w : World} {a : Option Addr} {n : Nat} {ss : List Nm} (h : TextsAt w a n ss) (hs : ss.length ≤ maxLen) : StrsAt w a (ss.map bytesOf) :=
  ⟨by rw [List.length_map]; exact hs, fun i hi => by
    obtain ⟨b, o, e1, e2⟩ := h.cells i (by simpa using hi)
    exact ⟨b, o, e1, by rw [List.getElem_map]; exact e2⟩⟩
theorem namesT_len (x : ByteArray × Int) (l : Fo) : (namesT x l).length ≤ nodesF l + 1 := by unfold namesT; rw [List.length_append]; have := namesN_len x; have := namesFo_len l; omega
end Go.Proofs.Ytplekhfnidhcoaa
/- Clones of numbers and texts; All's function value. -/
namespace Go.Proofs.Ytplekhfnidhcoaa
open Go.RowKit Go.Shelf Go.Deep


theorem clonei_run (ns : List (Int)) (w : World) (a : Addr) (c : Nat) (hI : IntsAt w (some a) ns) (hn : ns.length ≤ 17592186044416) :
    ∃ g cap w', (Builtin.append_ #[29, 29] 29 #[.slice (some ⟨w.heap.size, 0, none⟩) 0 0, .slice (some a) ns.length c]).run Try.prog (w.alloc (.cells #[] 3)) = .ok (.slice (some ⟨g, 0, none⟩) ns.length cap) w' ∧ IntsAt w' (some ⟨g, 0, none⟩) ns ∧ Below w.heap.size w w' := by
  obtain ⟨i0, hi0, hz0, hz1, hz2⟩ := info_parts Try.info3
  have hb := alloc_below0 w (.cells #[] 3)
  have hE : (w.alloc (.cells #[] 3)).ownsRow w.heap.size 3 1 (.slice (some ⟨w.heap.size, 0, none⟩) 0 0) 0 [] := ⟨rfl, .inr ⟨w.heap.size, 0, #[], rfl, Nat.le_refl _, World.alloc_heap_new w _, Nat.le_refl _, Nat.zero_le _, rfl, rfl⟩⟩
  obtain ⟨v', w', hr, h2, h3, h4, _⟩ := run_append_own_at (P := Try.prog) (w.alloc (.cells #[] 3)) w.heap.size 29 29 3 i0 _ 1 8 Try.underlying29 hi0 hz0 hz1 hz2 rfl (by decide) _ 0 [] hE a ns.length c (ns.map (Value.int .i64)) (by simp) (fun j u hj => by
    rw [List.getElem?_map] at hj
    cases hj2 : ns[j]? with
    | none => rw [hj2] at hj; cases hj
    | some x =>
      rw [hj2] at hj
      obtain ⟨hlt, hx⟩ := List.getElem?_eq_some_iff.1 hj2
      obtain ⟨b, o, e1, e2⟩ := hI.cells j hlt
      cases e1
      rw [Addr.add_lit]
      have := below_cell hb _ _ e2
      rw [hx] at this
      rw [this]
      exact hj) (by
    intro u hu
    obtain ⟨x, _, rfl⟩ := List.mem_map.1 hu
    rfl) (by have := hI.small; omega) (by omega) (by rw [World.size_alloc]; omega)
  rw [Nat.zero_add, List.nil_append] at h2
  have hbl : Below w.heap.size w w' := hb.trans ((fr_grown h3).below (fun k hk => by have h7 : some w.heap.size = some k := hk; have := Option.some.inj h7; omega) hb.size)
  rcases h2.2 with ⟨h5, h6⟩ | ⟨g, cap, cur, h5, h6, h7, _⟩
  · exact absurd (h4.1 h5).1 (by intro e; cases e)
  · subst h5
    refine ⟨g, cap, w', hr, ⟨hI.small, fun i hi => ⟨g, 0, rfl, ?_⟩⟩, hbl⟩
    exact owns_at h2 i _ (by rw [List.getElem?_map, List.getElem?_eq_getElem hi]; rfl)
set_option maxRecDepth 100000 in
set_option maxHeartbeats 2000000 in
theorem clonei_any (p : Option Addr) (c : Nat) (ns : List (Int)) (w : World) (hI : IntsAt w p ns) (hn : ns.length ≤ 17592186044416) :
    Calls Try.prog 32 #[.slice p ns.length c] w fun e w' => ∃ q d, e = .returned (.slice q ns.length d) ∧ IntsAt w' q ns ∧ Below w.heap.size w w' := by
  cases p with
  | none =>
    have hn : ns = [] := by
      rcases Nat.eq_zero_or_pos ns.length with h0 | h0
      · exact List.eq_nil_of_length_eq_zero h0
      · obtain ⟨_, _, h1, _⟩ := hI.cells 0 h0
        cases h1
    subst hn
    have h1 : (binOp .eql 29 (.slice none 0 c) (.slice none 0 0)).run Try.prog w = .ok (.bool true) w := rfl
    have HI := hid hI
    clear hI
    show Calls Try.prog 32 #[.slice none 0 c] w _
    go_enter Try.func32, Try.ntmps32
    go_wp2_with fail
    go_ret
    exact ⟨none, 0, rfl, HI.out, Below.refl _ _⟩
  | some a =>
    have h1 : (binOp .eql 29 (.slice (some a) ns.length c) (.slice none 0 0)).run Try.prog w = .ok (.bool false) w := rfl
    obtain ⟨g, cap, w1, hr1, hA1, hB1⟩ := clonei_run ns w a c hI hn
    have HA1 := hid hA1; have HB1 := hid hB1
    clear hI hA1 hB1
    go_enter Try.func32, Try.ntmps32
    go_wp2_with (first
      | (at_builtin; refine Lib.wpList_append_run _ rfl _ _ _ _ rfl _ _ rfl rfl _ _ hr1 ?_; clear hr1)
      | fail)
    go_ret
    exact ⟨_, _, rfl, HA1.out, HB1.out⟩

theorem clones_run (ns : List (ByteArray)) (w : World) (a : Addr) (c : Nat) (hI : StrsAt w (some a) ns) (hn : ns.length ≤ 8796093022208) :
    ∃ g cap w', (Builtin.append_ #[33, 33] 33 #[.slice (some ⟨w.heap.size, 0, none⟩) 0 0, .slice (some a) ns.length c]).run Try.prog (w.alloc (.cells #[] 9)) = .ok (.slice (some ⟨g, 0, none⟩) ns.length cap) w' ∧ StrsAt w' (some ⟨g, 0, none⟩) ns ∧ Below w.heap.size w w' := by
  obtain ⟨i0, hi0, hz0, hz1, hz2⟩ := info_parts Try.info9
  have hb := alloc_below0 w (.cells #[] 9)
  have hE : (w.alloc (.cells #[] 9)).ownsRow w.heap.size 9 1 (.slice (some ⟨w.heap.size, 0, none⟩) 0 0) 0 [] := ⟨rfl, .inr ⟨w.heap.size, 0, #[], rfl, Nat.le_refl _, World.alloc_heap_new w _, Nat.le_refl _, Nat.zero_le _, rfl, rfl⟩⟩
  obtain ⟨v', w', hr, h2, h3, h4, _⟩ := run_append_own_at (P := Try.prog) (w.alloc (.cells #[] 9)) w.heap.size 33 33 9 i0 _ 1 16 Try.underlying33 hi0 hz0 hz1 hz2 rfl (by decide) _ 0 [] hE a ns.length c (ns.map Value.string) (by simp) (fun j u hj => by
    rw [List.getElem?_map] at hj
    cases hj2 : ns[j]? with
    | none => rw [hj2] at hj; cases hj
    | some x =>
      rw [hj2] at hj
      obtain ⟨hlt, hx⟩ := List.getElem?_eq_some_iff.1 hj2
      obtain ⟨b, o, e1, e2⟩ := hI.cells j hlt
      cases e1
      rw [Addr.add_lit]
      have := below_cell hb _ _ e2
      rw [hx] at this
      rw [this]
      exact hj) (by
    intro u hu
    obtain ⟨x, _, rfl⟩ := List.mem_map.1 hu
    rfl) (by have := hI.small; omega) (by omega) (by rw [World.size_alloc]; omega)
  rw [Nat.zero_add, List.nil_append] at h2
  have hbl : Below w.heap.size w w' := hb.trans ((fr_grown h3).below (fun k hk => by have h7 : some w.heap.size = some k := hk; have := Option.some.inj h7; omega) hb.size)
  rcases h2.2 with ⟨h5, h6⟩ | ⟨g, cap, cur, h5, h6, h7, _⟩
  · exact absurd (h4.1 h5).1 (by intro e; cases e)
  · subst h5
    refine ⟨g, cap, w', hr, ⟨hI.small, fun i hi => ⟨g, 0, rfl, ?_⟩⟩, hbl⟩
    exact owns_at h2 i _ (by rw [List.getElem?_map, List.getElem?_eq_getElem hi]; rfl)
set_option maxRecDepth 100000 in
set_option maxHeartbeats 2000000 in
theorem clones_any (p : Option Addr) (c : Nat) (ns : List (ByteArray)) (w : World) (hI : StrsAt w p ns) (hn : ns.length ≤ 8796093022208) :
    Calls Try.prog 33 #[.slice p ns.length c] w fun e w' => ∃ q d, e = .returned (.slice q ns.length d) ∧ StrsAt w' q ns ∧ Below w.heap.size w w' := by
  cases p with
  | none =>
    have hn : ns = [] := by
      rcases Nat.eq_zero_or_pos ns.length with h0 | h0
      · exact List.eq_nil_of_length_eq_zero h0
      · obtain ⟨_, _, h1, _⟩ := hI.cells 0 h0
        cases h1
    subst hn
    have h1 : (binOp .eql 33 (.slice none 0 c) (.slice none 0 0)).run Try.prog w = .ok (.bool true) w := rfl
    have HI := hid hI
    clear hI
    show Calls Try.prog 33 #[.slice none 0 c] w _
    go_enter Try.func33, Try.ntmps33
    go_wp2_with fail
    go_ret
    exact ⟨none, 0, rfl, HI.out, Below.refl _ _⟩
  | some a =>
    have h1 : (binOp .eql 33 (.slice (some a) ns.length c) (.slice none 0 0)).run Try.prog w = .ok (.bool false) w := rfl
    obtain ⟨g, cap, w1, hr1, hA1, hB1⟩ := clones_run ns w a c hI hn
    have HA1 := hid hA1; have HB1 := hid hB1
    clear hI hA1 hB1
    go_enter Try.func33, Try.ntmps33
    go_wp2_with (first
      | (at_builtin; refine Lib.wpList_append_run _ rfl _ _ _ _ rfl _ _ rfl rfl _ _ hr1 ?_; clear hr1)
      | fail)
    go_ret
    exact ⟨_, _, rfl, HA1.out, HB1.out⟩

/-- All's boxes: the places, the names. -/
structure AllAt (W : World) (E0 E1 : Nat) (q0 : Option Addr) (d0 : Nat) (us : List Int) (q1 : Option Addr) (d1 : Nat) (vs : List ByteArray) : Prop where
  b0 : Box W E0 29 #[.slice q0 us.length d0]
  b1 : Box W E1 33 #[.slice q1 vs.length d1]
  us : IntsAt W q0 us
  vs : StrsAt W q1 vs
theorem AllAt.below {W W' : World} {E0 E1 : Nat} {q0 : Option Addr} {d0 : Nat} {us : List Int} {q1 : Option Addr} {d1 : Nat} {vs : List ByteArray} (h : AllAt W E0 E1 q0 d0 us q1 d1 vs) (hb : Below W.heap.size W W') : AllAt W' E0 E1 q0 d0 us q1 d1 vs := ⟨h.b0.below hb, h.b1.below hb, h.us.below hb, h.vs.below hb⟩
theorem box_int {W : World} {B o T : Nat} {p : Option Addr} {n c : Nat} {z : Int} (h : Box W B T #[.slice p n c]) (_ : T ≠ 0) (hc : W.cell? ⟨B, o, none⟩ = some (.int .i64 z)) : False := by
  rw [h.c o] at hc
  match o, hc with
  | 0, hc => cases hc
  | _ + 1, hc => simp at hc
theorem box_str {W : World} {B o T : Nat} {p : Option Addr} {n c : Nat} {z : ByteArray} (h : Box W B T #[.slice p n c]) (_ : T ≠ 0) (hc : W.cell? ⟨B, o, none⟩ = some (.string z)) : False := by
  rw [h.c o] at hc
  match o, hc with
  | 0, hc => cases hc
  | _ + 1, hc => simp at hc
theorem all_end {w W0 v2 : World} {q0 q1 : Option Addr} {d0 d1 nu n cu cv : Nat} {pu pv : Option Addr} {us : List Int} {vs : List ByteArray} (h0 : Box W0 w.heap.size 29 #[.slice pu nu cu]) (h1 : Box W0 (w.heap.size + 1) 33 #[.slice pv n cv]) (hV : Below W0.heap.size W0 v2) (hB : Below w.heap.size w W0) (hnu : us.length = nu) (hn : vs.length = n) (hA : IntsAt v2 q0 us) (hS : StrsAt v2 q1 vs) :
    AllAt ((v2.setCell ⟨w.heap.size, 0, none⟩ (.slice q0 nu d0)).setCell ⟨w.heap.size + 1, 0, none⟩ (.slice q1 n d1)) w.heap.size (w.heap.size + 1) q0 d0 us q1 d1 vs ∧ Below w.heap.size w ((v2.setCell ⟨w.heap.size, 0, none⟩ (.slice q0 nu d0)).setCell ⟨w.heap.size + 1, 0, none⟩ (.slice q1 n d1)) := by
  have e0 := h0.below hV
  have e1 := h1.below hV
  have f1 := fr_set v2 w.heap.size 0 (.slice q0 nu d0)
  have f2 := fr_set (v2.setCell ⟨w.heap.size, 0, none⟩ (.slice q0 nu d0)) (w.heap.size + 1) 0 (.slice q1 n d1)
  have g0 := (e0.set 0 (.slice q0 nu d0)).far (q := w.heap.size + 1) (by omega) 0 (.slice q1 n d1)
  have g1 := (e1.far (q := w.heap.size) (by omega) 0 (.slice q0 nu d0)).set 0 (.slice q1 n d1)
  have hlow : Below w.heap.size w v2 := hB.trans (hV.mono hB.size)
  have hkeep : ∀ {b o : Nat} {u : Value}, v2.cell? ⟨b, o, none⟩ = some u → (b ≠ w.heap.size ∧ b ≠ w.heap.size + 1) → ((v2.setCell ⟨w.heap.size, 0, none⟩ (.slice q0 nu d0)).setCell ⟨w.heap.size + 1, 0, none⟩ (.slice q1 n d1)).cell? ⟨b, o, none⟩ = some u := fun hc hb => f2.cell (f1.cell hc (fun e => hb.1 e)) (fun e => hb.2 e)
  refine ⟨⟨by rw [hnu]; exact g0, by rw [hn]; exact g1, ⟨hA.small, fun i hi => ?_⟩, ⟨hS.small, fun i hi => ?_⟩⟩, hlow.trans ((f1.below (fun q hq => by omega) hlow.size).trans (f2.below (fun q hq => by omega) (Nat.le_trans hlow.size f1.low.size)))⟩
  · obtain ⟨b, o, k1, k2⟩ := hA.cells i hi
    refine ⟨b, o, k1, hkeep k2 ⟨fun e => ?_, fun e => ?_⟩⟩
    · subst e
      exact box_int e0 (by decide) k2
    · subst e
      exact box_int e1 (by decide) k2
  · obtain ⟨b, o, k1, k2⟩ := hS.cells i hi
    refine ⟨b, o, k1, hkeep k2 ⟨fun e => ?_, fun e => ?_⟩⟩
    · subst e
      exact box_str e0 (by decide) k2
    · subst e
      exact box_str e1 (by decide) k2
set_option maxRecDepth 100000 in
set_option maxHeartbeats 2000000 in
theorem all_any (pu : Option Addr) (cu : Nat) (us : List Int) (pv : Option Addr) (cv : Nat) (vs : List ByteArray) (w : World) (hU : IntsAt w pu us) (hV : StrsAt w pv vs) (hu : us.length ≤ 17592186044416) (hv : vs.length ≤ 8796093022208) :
    Calls Try.prog 18 #[.slice pu us.length cu, .slice pv vs.length cv] w fun e w' => e = .returned (.func (.func 34) #[] #[.pointer (some ⟨w.heap.size, 0, none⟩), .pointer (some ⟨w.heap.size + 1, 0, none⟩)]) ∧ (∃ q0 d0 q1 d1, AllAt w' w.heap.size (w.heap.size + 1) q0 d0 us q1 d1 vs) ∧ Below w.heap.size w w' := by
  obtain ⟨nu, hNU⟩ : ∃ n, us.length = n := ⟨_, rfl⟩
  obtain ⟨n, hN⟩ : ∃ n, vs.length = n := ⟨_, rfl⟩
  have b0 := (Box.new w 29 #[.slice pu nu cu]).over (.cells #[.slice pv n cv] 33)
  have b1 := Box.new (w.alloc (.cells #[.slice pu nu cu] 29)) 33 #[.slice pv n cv]
  rw [World.size_alloc] at b1
  have hb : Below w.heap.size w ((w.alloc (.cells #[.slice pu nu cu] 29)).alloc (.cells #[.slice pv n cv] 33)) := ((Below.refl _ w).alloc (Nat.le_refl _) _).alloc (by simp) _
  have HC1 : Hid (∀ W, Below w.heap.size w W → Calls Try.prog 32 #[.slice pu nu cu] W fun e w' => ∃ q d, e = .returned (.slice q nu d) ∧ IntsAt w' q us ∧ Below W.heap.size W w') := hid (fun W hW => by have := clonei_any pu cu us W (hU.below hW) hu; rw [hNU] at this; exact this)
  have HC2 : Hid (∀ W, Below w.heap.size w W → Calls Try.prog 33 #[.slice pv n cv] W fun e w' => ∃ q d, e = .returned (.slice q n d) ∧ StrsAt w' q vs ∧ Below W.heap.size W w') := hid (fun W hW => by have := clones_any pv cv vs W (hV.below hW) hv; rw [hN] at this; exact this)
  rw [hNU, hN]
  have HB := hid hb; have HX0 := hid b0; have HX1 := hid b1
  have HNU := hid hNU; have HN := hid hN
  clear hU hV hNU hN hb b0 b1
  go_enter Try.func18, Try.ntmps18
  go_wp2_with fail
  generalize (w.alloc (.cells #[.slice pu nu cu] 29)).alloc (.cells #[.slice pv n cv] 33) = W0 at HB HX0 HX1 ⊢
  refine wp_region_held_drew (S := fun _ => True) (by kernel_rfl) trivial ?_
  intro hS
  refine wpAnyH_ready (rs := [0, 2]) (by kernel_rfl) (by simp) ?_
  refine AllReadyH.cons rfl (fun K hK => ?_) (AllReadyH.cons rfl (fun K hK => ?_) AllReadyH.nil)
  · have bq : W0.drew.cell? ⟨w.heap.size, 0, none⟩ = some (.slice pu nu cu) := (HX0.out.below (Below.refl _ W0).drew).c 0
    go_simp
    refine hK.out _ _ trivial (fun hS => ?_)
    clear hK K
    try dsimp only
    refine wpAnyH_ready (rs := [1, 2]) (by kernel_rfl) (by simp) ?_
    refine AllReadyH.cons rfl (fun K hK => ?_) (AllReadyH.cons rfl (fun K hK => ?_) AllReadyH.nil)
    · go_simp
      refine Calls.mono (HC1.out _ (HB.out.drew)) ?_
      rintro e v1 ⟨q0, d0, rfl, ha1, hb1⟩
      have HA1 := hid ha1; have HV1 : Hid (Below W0.heap.size W0 v1) := hid (((Below.refl _ W0).drew).trans hb1)
      clear ha1 hb1
      refine hK.out _ _ trivial (fun hS => ?_)
      clear hK K
      try dsimp only
      refine wpAnyH_ready (rs := [2]) (by kernel_rfl) (by simp) ?_
      refine AllReadyH.cons rfl (fun K hK => ?_) AllReadyH.nil
      have bq2 : v1.cell? ⟨w.heap.size + 1, 0, none⟩ = some (.slice pv n cv) := (HX1.out.below HV1.out).c 0
      go_simp
      refine hK.out _ _ trivial (fun hS => ?_)
      clear hK K
      try dsimp only
      refine wpAnyH_ready (rs := [3]) (by kernel_rfl) (by simp) ?_
      refine AllReadyH.cons rfl (fun K hK => ?_) AllReadyH.nil
      go_simp
      refine Calls.mono (HC2.out _ (HB.out.trans (HV1.out.mono HB.out.size))) ?_
      rintro e v2 ⟨q1, d1, rfl, ha2, hb2⟩
      have HA2 := hid ha2; have HA1b := hid (HA1.out.below hb2); have HV2 : Hid (Below W0.heap.size W0 v2) := hid (HV1.out.trans (hb2.mono HV1.out.size))
      clear ha2 hb2
      refine hK.out _ _ trivial (fun hS => ?_)
      clear hK K
      try dsimp only
      refine wpAnyH_ready (rs := [4]) (by kernel_rfl) (by simp) ?_
      refine AllReadyH.cons rfl (fun K hK => ?_) AllReadyH.nil
      have s0 : v2.cell? ⟨w.heap.size, 0, none⟩ = some (.slice pu nu cu) := (HX0.out.below HV2.out).c 0
      have f0 := (HX0.out.below HV2.out).f 0
      go_simp
      refine hK.out _ _ trivial (fun hS => ?_)
      clear hK K
      try dsimp only
      refine wpAnyH_ready (rs := [5]) (by kernel_rfl) (by simp) ?_
      refine AllReadyH.cons rfl (fun K hK => ?_) AllReadyH.nil
      have hy1 := (HX1.out.below HV2.out).far (q := w.heap.size) (by omega) 0 (.slice q0 nu d0)
      have s1 : (v2.setCell ⟨w.heap.size, 0, none⟩ (.slice q0 nu d0)).cell? ⟨w.heap.size + 1, 0, none⟩ = some (.slice pv n cv) := hy1.c 0
      have f1 := hy1.f 0
      go_simp
      refine hK.out _ _ trivial (fun hS => ?_)
      clear hK K
      try dsimp only
      refine wpAnyH_done (by kernel_rfl) ?_ _
      have HE := hid (all_end (d0 := d0) (d1 := d1) HX0.out HX1.out HV2.out HB.out HNU.out HN.out HA1b.out HA2.out)
      clear s0 f0 s1 f1 hy1 hS
      generalize (v2.setCell ⟨w.heap.size, 0, none⟩ (.slice q0 nu d0)).setCell ⟨w.heap.size + 1, 0, none⟩ (.slice q1 n d1) = v3 at HE ⊢
      go_wp2
      go_ret
      exact ⟨rfl, ⟨_, _, _, _, HE.out.1⟩, HE.out.2⟩
    · have bq2 : W0.drew.cell? ⟨w.heap.size + 1, 0, none⟩ = some (.slice pv n cv) := (HX1.out.below (Below.refl _ W0).drew).c 0
      go_simp
      refine hK.out _ _ trivial (fun hS => ?_)
      clear hK K
      try dsimp only
      refine wpAnyH_ready (rs := [1]) (by kernel_rfl) (by simp) ?_
      refine AllReadyH.cons rfl (fun K hK => ?_) AllReadyH.nil
      go_simp
      refine Calls.mono (HC1.out _ (HB.out.drew)) ?_
      rintro e v1 ⟨q0, d0, rfl, ha1, hb1⟩
      have HA1 := hid ha1; have HV1 : Hid (Below W0.heap.size W0 v1) := hid (((Below.refl _ W0).drew).trans hb1)
      clear ha1 hb1
      refine hK.out _ _ trivial (fun hS => ?_)
      clear hK K
      try dsimp only
      refine wpAnyH_ready (rs := [3]) (by kernel_rfl) (by simp) ?_
      refine AllReadyH.cons rfl (fun K hK => ?_) AllReadyH.nil
      go_simp
      refine Calls.mono (HC2.out _ (HB.out.trans (HV1.out.mono HB.out.size))) ?_
      rintro e v2 ⟨q1, d1, rfl, ha2, hb2⟩
      have HA2 := hid ha2; have HA1b := hid (HA1.out.below hb2); have HV2 : Hid (Below W0.heap.size W0 v2) := hid (HV1.out.trans (hb2.mono HV1.out.size))
      clear ha2 hb2
      refine hK.out _ _ trivial (fun hS => ?_)
      clear hK K
      try dsimp only
      refine wpAnyH_ready (rs := [4]) (by kernel_rfl) (by simp) ?_
      refine AllReadyH.cons rfl (fun K hK => ?_) AllReadyH.nil
      have s0 : v2.cell? ⟨w.heap.size, 0, none⟩ = some (.slice pu nu cu) := (HX0.out.below HV2.out).c 0
      have f0 := (HX0.out.below HV2.out).f 0
      go_simp
      refine hK.out _ _ trivial (fun hS => ?_)
      clear hK K
      try dsimp only
      refine wpAnyH_ready (rs := [5]) (by kernel_rfl) (by simp) ?_
      refine AllReadyH.cons rfl (fun K hK => ?_) AllReadyH.nil
      have hy1 := (HX1.out.below HV2.out).far (q := w.heap.size) (by omega) 0 (.slice q0 nu d0)
      have s1 : (v2.setCell ⟨w.heap.size, 0, none⟩ (.slice q0 nu d0)).cell? ⟨w.heap.size + 1, 0, none⟩ = some (.slice pv n cv) := hy1.c 0
      have f1 := hy1.f 0
      go_simp
      refine hK.out _ _ trivial (fun hS => ?_)
      clear hK K
      try dsimp only
      refine wpAnyH_done (by kernel_rfl) ?_ _
      have HE := hid (all_end (d0 := d0) (d1 := d1) HX0.out HX1.out HV2.out HB.out HNU.out HN.out HA1b.out HA2.out)
      clear s0 f0 s1 f1 hy1 hS
      generalize (v2.setCell ⟨w.heap.size, 0, none⟩ (.slice q0 nu d0)).setCell ⟨w.heap.size + 1, 0, none⟩ (.slice q1 n d1) = v3 at HE ⊢
      go_wp2
      go_ret
      exact ⟨rfl, ⟨_, _, _, _, HE.out.1⟩, HE.out.2⟩
  · have bq2 : W0.drew.cell? ⟨w.heap.size + 1, 0, none⟩ = some (.slice pv n cv) := (HX1.out.below (Below.refl _ W0).drew).c 0
    go_simp
    refine hK.out _ _ trivial (fun hS => ?_)
    clear hK K
    try dsimp only
    refine wpAnyH_ready (rs := [0]) (by kernel_rfl) (by simp) ?_
    refine AllReadyH.cons rfl (fun K hK => ?_) AllReadyH.nil
    have bq : W0.drew.cell? ⟨w.heap.size, 0, none⟩ = some (.slice pu nu cu) := (HX0.out.below (Below.refl _ W0).drew).c 0
    go_simp
    refine hK.out _ _ trivial (fun hS => ?_)
    clear hK K
    try dsimp only
    refine wpAnyH_ready (rs := [1]) (by kernel_rfl) (by simp) ?_
    refine AllReadyH.cons rfl (fun K hK => ?_) AllReadyH.nil
    go_simp
    refine Calls.mono (HC1.out _ (HB.out.drew)) ?_
    rintro e v1 ⟨q0, d0, rfl, ha1, hb1⟩
    have HA1 := hid ha1; have HV1 : Hid (Below W0.heap.size W0 v1) := hid (((Below.refl _ W0).drew).trans hb1)
    clear ha1 hb1
    refine hK.out _ _ trivial (fun hS => ?_)
    clear hK K
    try dsimp only
    refine wpAnyH_ready (rs := [3]) (by kernel_rfl) (by simp) ?_
    refine AllReadyH.cons rfl (fun K hK => ?_) AllReadyH.nil
    go_simp
    refine Calls.mono (HC2.out _ (HB.out.trans (HV1.out.mono HB.out.size))) ?_
    rintro e v2 ⟨q1, d1, rfl, ha2, hb2⟩
    have HA2 := hid ha2; have HA1b := hid (HA1.out.below hb2); have HV2 : Hid (Below W0.heap.size W0 v2) := hid (HV1.out.trans (hb2.mono HV1.out.size))
    clear ha2 hb2
    refine hK.out _ _ trivial (fun hS => ?_)
    clear hK K
    try dsimp only
    refine wpAnyH_ready (rs := [4]) (by kernel_rfl) (by simp) ?_
    refine AllReadyH.cons rfl (fun K hK => ?_) AllReadyH.nil
    have s0 : v2.cell? ⟨w.heap.size, 0, none⟩ = some (.slice pu nu cu) := (HX0.out.below HV2.out).c 0
    have f0 := (HX0.out.below HV2.out).f 0
    go_simp
    refine hK.out _ _ trivial (fun hS => ?_)
    clear hK K
    try dsimp only
    refine wpAnyH_ready (rs := [5]) (by kernel_rfl) (by simp) ?_
    refine AllReadyH.cons rfl (fun K hK => ?_) AllReadyH.nil
    have hy1 := (HX1.out.below HV2.out).far (q := w.heap.size) (by omega) 0 (.slice q0 nu d0)
    have s1 : (v2.setCell ⟨w.heap.size, 0, none⟩ (.slice q0 nu d0)).cell? ⟨w.heap.size + 1, 0, none⟩ = some (.slice pv n cv) := hy1.c 0
    have f1 := hy1.f 0
    go_simp
    refine hK.out _ _ trivial (fun hS => ?_)
    clear hK K
    try dsimp only
    refine wpAnyH_done (by kernel_rfl) ?_ _
    have HE := hid (all_end (d0 := d0) (d1 := d1) HX0.out HX1.out HV2.out HB.out HNU.out HN.out HA1b.out HA2.out)
    clear s0 f0 s1 f1 hy1 hS
    generalize (v2.setCell ⟨w.heap.size, 0, none⟩ (.slice q0 nu d0)).setCell ⟨w.heap.size + 1, 0, none⟩ (.slice q1 n d1) = v3 at HE ⊢
    go_wp2
    go_ret
    exact ⟨rfl, ⟨_, _, _, _, HE.out.1⟩, HE.out.2⟩
end Go.Proofs.Ytplekhfnidhcoaa
/- What All's function value hands out, to any loop. -/
namespace Go.Proofs.Ytplekhfnidhcoaa
open Go.RowKit Go.Shelf Go.Deep

attribute [local go_sem] Oper.semAt_some

theorem many_pos (u n : Nat) : ∃ M : Nat, manyO u n 9223372036854775807 = (M : Int) ∧ (M : Int) ≤ 9223372036854775807 ∧ ∀ k : Nat, k < M → k < (u + 1) ^ n := by
  unfold manyO
  rw [if_neg (by omega)]
  by_cases h : ((u + 1) ^ n : Nat) ≤ (9223372036854775807 : Int).toNat
  · rw [if_pos h]
    exact ⟨_, rfl, by omega, fun k hk => hk⟩
  · rw [if_neg h]
    exact ⟨9223372036854775807, rfl, by omega, fun k hk => by omega⟩
set_option maxRecDepth 100000 in
set_option maxHeartbeats 4000000 in
theorem all_in (m : Nat) (hm : 1 ≤ m) (l E0 E1 : Nat) (q0 : Option Addr) (d0 : Nat) (us : List Int) (q1 : Option Addr) (d1 : Nat) (vs : List ByteArray) (hu : us.length ≤ 17592186044416) (hv : vs.length ≤ 17592186044416) (M : Nat) (hM : manyO us.length vs.length 9223372036854775807 = (M : Int)) (hM2 : (M : Int) ≤ 9223372036854775807) (J : Nat → World → Prop) (Jx : World → Prop)
    (hrow : ∀ k W, J k W → AllAt W E0 E1 q0 d0 us q1 d1 vs)
    (hY : ∀ k W0 W v, k < M → J k W0 → Below W0.heap.size W0 W → BOwn W W0.heap.size v (wayO us vs (k : Int)).1 → YieldAt Fence.wide (m - 1) Try.prog l #[v] W fun e W' => (e = .returned (.bool true) ∧ J (k + 1) W') ∨ (e = .returned (.bool false) ∧ Jx W'))
    (W : World) (h0 : J 0 W) :
    CallsIn Fence.wide m Try.prog 34 #[.func (.yield l) #[] #[], .pointer (some ⟨E0, 0, none⟩), .pointer (some ⟨E1, 0, none⟩)] W fun e W' => (∃ v, e = .returned v) ∧ (J M W' ∨ Jx W') := by
  obtain ⟨nu, hNU⟩ : ∃ n, us.length = n := ⟨_, rfl⟩
  obtain ⟨n, hN⟩ : ∃ n, vs.length = n := ⟨_, rfl⟩
  have HR := hid hrow; have HY := hid hY; have H0 := hid h0
  have c0 : W.cell? ⟨E0, 0, none⟩ = some (.slice q0 nu d0) := by rw [← hNU]; exact (hrow 0 W h0).b0.c 0
  have c1 : W.cell? ⟨E1, 0, none⟩ = some (.slice q1 n d1) := by rw [← hN]; exact (hrow 0 W h0).b1.c 0
  have HMC := hid (many_any q0 nu d0 q1 n d1 9223372036854775807 (by omega) (by omega) (by unfold Is64; omega))
  rw [hNU, hN] at hM
  rw [hM] at HMC
  have HWY : Hid (∀ k : Nat, (k : Int) ≤ 9223372036854775807 → ∀ W, AllAt W E0 E1 q0 d0 us q1 d1 vs → Calls Try.prog 13 #[.slice q0 nu d0, .slice q1 n d1, .int .i64 (k : Int)] W fun e w' => ∃ v, e = .returned (.tuple #[v, .bool (wayO us vs k).2]) ∧ BOwn w' W.heap.size v (wayO us vs k).1 ∧ Below W.heap.size W w') := hid (fun k hk W hW => by
    have := way_any q0 d0 us q1 d1 vs (k : Int) W hW.us hW.vs hu hv (by unfold Is64; omega)
    rw [hNU, hN] at this
    exact this)
  have HNU := hid hNU; have HN := hid hN
  clear hrow hY h0 hNU hN hM hu hv
  refine callsIn_of_wp Try.func34 rfl trivial ?_ rfl
  simp only [Try.ntmps34, List.size_toArray, List.length_cons, List.length_nil, Nat.reduceAdd, Nat.reduceSub, Array.replicate_succ, Array.replicate_zero, List.push_toArray, List.append_toArray, List.nil_append, List.cons_append]
  gi_wp2_with fail
  refine ⟨trivial, ?_⟩
  refine (callsIn_wide.2 (HMC.out _)).mono ?_
  rintro e w' ⟨rfl, rfl⟩
  gi_wp2_with fail
  gi_loopw [10] (fun p wr => ∃ k : Nat, k ≤ M ∧ p = .int .i64 (k : Int) ∧ J k wr) (fun p _ => M - (intOf p).toNat)
  case atStart => exact ⟨0, Nat.zero_le _, rfl, H0.out⟩
  case round =>
    obtain ⟨k, hk, rfl, hj⟩ := hrel
    have HJ := hid hj
    clear hj
    by_cases hlt : k < M
    · have hat := HR.out k wr HJ.out
      have e0 : wr.cell? ⟨E0, 0, none⟩ = some (.slice q0 nu d0) := by rw [← HNU.out]; exact hat.b0.c 0
      have e1 : wr.cell? ⟨E1, 0, none⟩ = some (.slice q1 n d1) := by rw [← HN.out]; exact hat.b1.c 0
      have HAT := hid hat
      have hkm : (k : Int) < (M : Int) := by omega
      clear hat c0 c1
      gi_wp2_with fail
      refine ⟨trivial, ?_⟩
      refine (callsIn_wide.2 (HWY.out k (by omega) wr HAT.out)).mono ?_
      rintro e w2 ⟨v, rfl, hown, hb⟩
      obtain ⟨fn, tmps, assign, body, hy, hR⟩ := HY.out k wr w2 v hlt HJ.out hb hown
      have HRR := hid hR
      obtain ⟨p9, c9, hv9⟩ := hown.form
      subst hv9
      clear hown hb hR e0 e1
      gi_wp2
      refine HRR.out.mono ?_
      rintro e W3 (⟨rfl, hJ3⟩ | ⟨rfl, hJx3⟩)
      · gi_wp2
        go_roundw
        case rel => exact ⟨k + 1, by omega, by go_num, hJ3⟩
        case measure => simp [intOf]; omega
      · gi_wp2
        refine bodyPost_ret (results_none rfl _ _ _) rfl ?_
        exact ⟨⟨_, rfl⟩, .inr hJx3⟩
    · obtain rfl : k = M := by omega
      gi_wp2
      refine bodyPost_end (results_none rfl _ _ _) rfl ?_
      exact ⟨⟨_, rfl⟩, .inl HJ.out⟩
end Go.Proofs.Ytplekhfnidhcoaa
