/- What Units of package sig makes. -/
import Derived.Test.YtplekhfnidhcoaaShelf
import Derived.Test.YtplekhfnidhcoaaPlaces
import Derived.Test.YtplekhfnidhcoaaUPlain
namespace Go.Proofs.Ytplekhfnidhcoaa
open Go.RowKit Go.Maps

/-- A slice of integers in memory from block 'base' on, which may be written. -/
structure IntsZ (w : World) (base : Nat) (a : Option Addr) (n : Nat) (zs : List Int) : Prop where
  len : n = zs.length
  small : n ≤ maxLen
  cells : ∀ j (h : j < zs.length), ∃ b, a = some ⟨b, 0, none⟩ ∧ base ≤ b ∧ w.cell? ⟨b, j, none⟩ = some (.int .i64 zs[j]) ∧ w.frozen? ⟨b, j, none⟩ = false

theorem heap_mapBlock (w : World) (blk k : Nat) (f : Array Value → Array Value) (h : k ≠ blk) : (Sort.mapBlock w blk f).heap[k]? = w.heap[k]? := by
  simp only [Sort.mapBlock, Array.getElem?_modify]
  rw [if_neg (by omega)]
theorem below_putRow {B : Nat} {a w : World} (h : Below B a w) {g : Nat} (hg : B ≤ g) (q off : Nat) (d : Array Int) : Below B a (Sort.putRow (Value.int .i64) (Sort.ahead w q) g off d) :=
  h.trans ⟨rfl, rfl, rfl, by simp, fun k hk => by
    unfold Sort.putRow
    rw [heap_mapBlock _ _ _ _ (by omega)]; rfl⟩
theorem below_grow {B : Nat} {a w : World} (h : Below B a w) (hB : B ≤ w.heap.size) (os : Array Obj) : Below B a (Sort.grow w os) :=
  h.trans ⟨rfl, rfl, rfl, by simp, fun k hk => Sort.heap_grow_old w os (by omega)⟩

theorem holds_of_owns {w : World} {g : Nat} {cur : Array Value} {zs : List Int} (hh : w.heap[g]? = some (.cells cur 3 (0, 0))) (hc : cur.toList.take (zs.length * 1) = ints zs) : Sort.Holds (Value.int .i64) w g 0 zs.toArray := by
  intro j hj
  have hj' : j < zs.length := by simpa using hj
  refine ⟨?_, by simp [World.frozen?, hh]⟩
  rw [Nat.zero_add, cell_of_row w g j cur 3 (0, 0) hh]
  have h1 : (cur.toList.take (zs.length * 1))[j]? = (ints zs)[j]? := by rw [hc]
  rw [List.getElem?_take_of_lt (by omega)] at h1
  simp only [Array.getElem?_toList] at h1
  rw [h1, getElem!_pos _ j hj]
  simp [ints, hj']

theorem ownsMap_of_block {H : Type} {w w' : World} {P : Program} {k : TypeId} {R : Value → Option (DataW H × List MemPlace)} {b n : Nat} {D : DataW H} (h : w.ownsMap P k R b n D) (hb : w'.heap[b]? = w.heap[b]?) : w'.ownsMap P k R b n D := by
  obtain ⟨es, clock, h1, h2⟩ := h
  exact ⟨es, clock, hb.trans h1, h2⟩
theorem ownsMap_lt {H : Type} {w : World} {P : Program} {k : TypeId} {R : Value → Option (DataW H × List MemPlace)} {b n : Nat} {D : DataW H} (h : w.ownsMap P k R b n D) : b < w.heap.size := by
  obtain ⟨es, clock, h1, _⟩ := h
  rcases Nat.lt_or_ge b w.heap.size with hlt | hge
  · exact hlt
  · rw [Array.getElem?_eq_none hge] at h1; cases h1

/-- What holds behind k rounds. -/
structure UnitsTo (w wr : World) (l : List Sym) (n k : Nat) (v : Value) (D : DataW Unit) : Prop where
  own : wr.ownsRow (w.heap.size + 1) 3 1 v (rawTo l k).length (ints (rawTo l k))
  map : wr.ownsMap Try.prog 9 (plainElem Try.prog 3) w.heap.size n D
  below : Below w.heap.size w wr

set_option maxHeartbeats 1000000 in
theorem sunits_any (a : Option Addr) (n cap : Nat) (l : List Sym) (w : World) (h : SigAt w a n l) (hr : n * 48 ≤ 140737488351232) :
    Calls Try.prog 24 #[.slice a n cap] w fun e w' => ∃ a' m cap', e = .returned (.slice a' m cap') ∧ IntsZ w' w.heap.size a' m (refTo l n) ∧ Below w.heap.size w w' := by
  obtain ⟨i0, hi, hz0, hz1, hz2⟩ := info_parts Try.info3s
  have HS : Hid (SigAt w a n l) := h
  have hlen : Hid (n = l.length) := h.len
  clear h
  go_enter Try.func24, Try.ntmps24
  go_wp2_with fail
  refine (places_any a n cap l _ HS.out hr).mono ?_
  rintro e w1 ⟨D, rfl, hown, hpl, hb⟩
  have HP : Hid (Places D l) := hpl
  have H0 : Hid (UnitsTo w w1 l n 0 (.slice none 0 0) D) := ⟨World.ownsRow_nil _ _ _ _, hown, hb⟩
  clear hown hpl hb
  go_wp2
  go_loopw [4, 6, 7, 8, 13] (fun v _ _ _ i w' => ∃ k : Nat, k ≤ n ∧ i = .int .i64 k ∧ UnitsTo w w' l n k v D) (fun _ _ _ _ i _ => n - (intOf i).toNat)
  case atStart => exact ⟨0, Nat.zero_le _, rfl, H0.out⟩
  case round =>
    obtain ⟨k, hk, rfl, hto⟩ := hrel
    have HT : Hid (UnitsTo w wr l n k u4 D) := hto
    have hszm := ownsMap_lt hto.map
    clear hto
    by_cases hlt : k < n
    · have hlk : k < l.length := by have := hlen.out; omega
      have hle := rawTo_le l k
      obtain ⟨b, off, rfl, hsym⟩ := HS.out.cells k hlk
      have hw := hsym.below HT.out.below
      have c0 := hw.name
      have c1 := hw.kind
      have c2 := hw.arity
      have c3 := hw.unit
      clear hw hsym
      have hown := HT.out.own
      have hmap := HT.out.map
      have hkey : keyOf Try.prog 9 (.string l[k].unit) = some (keyL l[k].unit) := Go.WideMaps.keyOf_string_mk Try.underlying9 (HS.out.fits _ (List.getElem_mem hlk)).unit
      cases hk3 : (l[k].kind != 3)
      · have hk3' : Hid (l[k].kind = 3) := by show _ = _; simpa using hk3
        cases hf : findL l l[k].unit with
        | none =>
          have hraw : Hid (rawTo l (k + 1) = rawTo l k) := rawTo_none hlk (by unfold unitOf; rw [if_pos hk3'.out, hf]; rfl)
          have hhas := HP.out.has l[k].unit
          rw [findB_none hf] at hhas
          have HF : Hid (findL l l[k].unit = none) := hf
          clear hf
          go_wp2_with (first | (at_lookup; refine wpList_lookup_own_ok_int _ rfl _ _ 76 rfl 9 3 .i64 law9 Try.underlying76 Try.underlying3 (zero3 _) w.heap.size n D rfl (hmap.alloc _) _ _ rfl hkey ?_; intro c hat hwc))
          go_roundw
          case rel => exact ⟨k + 1, by omega, by go_num, ⟨by rw [hraw.out]; exact hown.alloc _, hmap.alloc _, HT.out.below.alloc HT.out.below.size _⟩⟩
          case measure => simp [intOf]; omega
        | some i =>
          have hraw : Hid (rawTo l (k + 1) = rawTo l k ++ [(i : Int)]) := rawTo_some hlk (by unfold unitOf; rw [if_pos hk3'.out, hf]; rfl)
          have hhas := HP.out.has l[k].unit
          rw [findB_some hf] at hhas
          have HF : Hid (D.atKey (keyL l[k].unit) (.lit (.int .i64 0)) = .lit (.int .i64 i)) := HP.out.at_ _ _ hf
          clear hf
          go_wp2_with (first | (at_lookup; refine wpList_lookup_own_ok_int _ rfl _ _ 76 rfl 9 3 .i64 law9 Try.underlying76 Try.underlying3 (zero3 _) w.heap.size n D rfl (hmap.alloc _) _ _ rfl hkey ?_; intro c hat hwc; have hci : c = (i : Int) := (by have := HF.out; rw [hat] at this; simpa using this); subst hci) | (at_builtin; go_loud (refine wpList_append_lies _ rfl (.tmp 28) (.tmp 30) 29 rfl (w.heap.size + 1) 3 i0 _ 1 8 Try.underlying29 hi hz0 hz1 hz2 rfl (by decide) u4 (rawTo l k).length (ints (rawTo l k)) rfl ((hown.alloc _).alloc _) ⟨wr.heap.size + 1, 0, none⟩ 1 1 (ints [(i : Int)]) rfl rfl (int_news _ _ (by simp) _) (ints_one _) (by decide) (by unfold maxLen; omega) (by omega) (by simp; omega) (wr.heap.size + 2) (by simp) ?_); intro g1 cap1 w3 hown3 hgrow3 hat3 hlt3))
          have HB3 : Hid (Below w.heap.size w w3) := ((HT.out.below.alloc HT.out.below.size _).alloc (by simp; omega) _).grown hgrow3 (by simp; omega) (fun j hj => by have := own_base hown j hj; omega)
          have HM3 : Hid (w3.ownsMap Try.prog 9 (plainElem Try.prog 3) w.heap.size n D) := ownsMap_of_block ((hmap.alloc _).alloc _) (hgrow3.block w.heap.size (by simp; omega) (fun e => by have := own_base hown _ e.symm; omega))
          clear hgrow3
          go_roundw
          case rel => exact ⟨k + 1, by omega, by go_num, ⟨by rw [hraw.out]; simpa [ints] using hown3, HM3.out, HB3.out⟩⟩
          case measure => simp [intOf]; omega
      · have hraw : Hid (rawTo l (k + 1) = rawTo l k) := rawTo_none hlk (by unfold unitOf; rw [if_neg (by simpa using hk3)])
        go_wp2
        go_roundw
        case rel => exact ⟨k + 1, by omega, by go_num, ⟨by rw [hraw.out]; exact hown.alloc _, hmap.alloc _, HT.out.below.alloc HT.out.below.size _⟩⟩
        case measure => simp [intOf]; omega
    · have hkn : Hid (k = n) := by show k = n; omega
      have hfin : Hid (Lib.compact (sortedI (rawTo l k)) = refTo l n) := by
        show _ = _
        rw [hkn.out, hlen.out]; exact units_eq l
      have hle : (rawTo l k).length ≤ n := by have := rawTo_le l k; omega
      have HB : Hid (Below w.heap.size w wr) := HT.out.below
      rcases HT.out.own.2 with ⟨hv, h0⟩ | ⟨g, cap', cur, hv, hg, hh, hnc, hm, hsz, hcur⟩
      · have hz : Hid (refTo l n = []) := by
          show _ = _
          rw [← hfin.out, List.length_eq_zero_iff.1 h0]
          simp [sortedI, Lib.compact, Lib.compactUpTo]
        clear h0 HT
        subst hv
        go_wp2_with fail
        refine (Try.slices_Sort_int_none _ _ _).mono ?_
        rintro e w5 ⟨rfl, hw5⟩
        rw [hw5]
        clear hw5
        go_wp2_with fail
        refine (Try.slices_Compact_int_empty _ _ _).mono ?_
        rintro e w6 ⟨rfl, hw6⟩
        rw [hw6]
        clear hw6
        go_wp2
        go_ret
        exact ⟨none, 0, 0, rfl, ⟨by rw [hz.out]; rfl, Nat.zero_le _, fun j hj => absurd hj (by rw [hz.out]; simp)⟩, HB.out⟩
      · have hH : Hid (Sort.Holds (Value.int .i64) wr g 0 (rawTo l k).toArray) := holds_of_owns hh hcur
        have hgl : g < wr.heap.size := by
          rcases Nat.lt_or_ge g wr.heap.size with hlt | hge
          · exact hlt
          · rw [Array.getElem?_eq_none hge] at hh; cases hh
        clear hh hcur hsz HT
        subst hv
        go_wp2_with fail
        refine (Try.slices_Sort_int g 0 cap' (rawTo l k) _ hH.out hgl (by omega)).mono ?_
        rintro e w5 ⟨rfl, q5, os5, hw5⟩
        have hlen5 : Hid ((sortedI (rawTo l k)).length = (rawTo l k).length) := List.length_mergeSort _
        have hH5 : Hid (Sort.Holds (Value.int .i64) w5 g 0 (sortedI (rawTo l k)).toArray) := by
          show Sort.Holds _ _ _ _ _
          rw [hw5]
          exact Sort.holds_grow _ _ _ _ _ _ (by simpa using hgl) (Sort.holds_putRow _ _ _ _ (rawTo l k).toArray _ (Sort.holds_ahead _ _ _ _ _ _ hH.out) (by simp))
        have HB5 : Hid (Below w.heap.size w w5) := by
          show Below _ _ _
          rw [hw5]
          exact below_grow (below_putRow HB.out (by omega) _ _ _) (by have := HB.out.size; simp; omega) _
        clear hw5
        have hc5 := Try.slices_Compact_int g 0 cap' (sortedI (rawTo l k)) w5 hH5.out (by rw [hlen5.out]; omega) (by rw [hlen5.out]; exact hnc)
        rw [hlen5.out] at hc5
        have HC : Hid (Calls Try.prog 41 #[.slice (some ⟨g, 0, none⟩) (rawTo l k).length cap'] w5 fun e w' => e = .returned (.slice (some ⟨g, 0, none⟩) (Lib.compact (sortedI (rawTo l k))).length cap') ∧ ∃ q, w' = Sort.putRow (Value.int .i64) (Sort.ahead w5 q) g 0 (Lib.compact (sortedI (rawTo l k)) ++ List.replicate ((rawTo l k).length - (Lib.compact (sortedI (rawTo l k))).length) 0).toArray) := hc5
        clear hc5
        go_wp2_with fail
        refine HC.out.mono ?_
        rintro e w6 ⟨rfl, q6, hw6⟩
        have hcl : Hid ((Lib.compact (sortedI (rawTo l k))).length ≤ (rawTo l k).length) := by
          show _ ≤ _
          rw [← hlen5.out]
          unfold Lib.compact Lib.compactUpTo
          rw [List.length_map]
          exact Nat.le_trans (List.length_filter_le _ _) (by simp)
        have hH6 : Hid (Sort.Holds (Value.int .i64) w6 g 0 (Lib.compact (sortedI (rawTo l k)) ++ List.replicate ((rawTo l k).length - (Lib.compact (sortedI (rawTo l k))).length) 0).toArray) := by
          show Sort.Holds _ _ _ _ _
          rw [hw6]
          exact Sort.holds_putRow _ _ _ _ (sortedI (rawTo l k)).toArray _ (Sort.holds_ahead _ _ _ _ _ _ hH5.out) (by have := hcl.out; have := hlen5.out; simp; omega)
        have HB6 : Hid (Below w.heap.size w w6) := by
          show Below _ _ _
          rw [hw6]
          exact below_putRow HB5.out (by omega) _ _ _
        clear hw6
        go_wp2
        go_ret
        refine ⟨some ⟨g, 0, none⟩, _, cap', rfl, ⟨by rw [hfin.out], by have := hcl.out; unfold maxLen; omega, fun j hj => ⟨g, rfl, by omega, ?_⟩⟩, HB6.out⟩
        have hj' : j < (Lib.compact (sortedI (rawTo l k))).length := by rw [hfin.out]; exact hj
        have hh6 := hH6.out j (by simp; omega)
        rw [Nat.zero_add, getElem!_pos _ j (by simp; omega)] at hh6
        simp only [List.getElem_toArray, List.getElem_append_left hj'] at hh6
        have e2 : (Lib.compact (sortedI (rawTo l k)))[j] = (refTo l n)[j] := by simp only [hfin.out]
        rw [e2] at hh6
        exact hh6
end Go.Proofs.Ytplekhfnidhcoaa
