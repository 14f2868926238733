/- What firstPlaces makes: of each name what Find tells. -/
import Derived.Test.YtplekhfnidhcoaaRPlain
import Derived.Maps.OwnSet
namespace Go.Proofs.Ytplekhfnidhcoaa
open Go.RowKit Go.Maps

theorem sameB_iff (a b : ByteArray) : sameB a b = true ↔ a.data.toList = b.data.toList := by
  unfold sameB
  rw [ByteArray.toList_eq, ByteArray.toList_eq, beq_iff_eq]
theorem sameB_false (a b : ByteArray) : sameB a b = false ↔ a.data.toList ≠ b.data.toList := by
  rw [← Bool.not_eq_true, sameB_iff]

def keyL (nm : ByteArray) : Lit := .string nm.data.toList
theorem keyL_ne {a b : ByteArray} (h : sameB a b = false) : keyL a ≠ keyL b := fun e => (sameB_false a b).1 h (by simpa [keyL] using e)
theorem keyL_eq {a b : ByteArray} (h : sameB a b = true) : keyL a = keyL b := by unfold keyL; rw [(sameB_iff a b).1 h]
theorem sameB_symm {a b : ByteArray} (h : sameB a b = false) : sameB b a = false := by rw [sameB_false] at *; exact fun e => h e.symm

/-- The map tells of each name the place of the first symbol of that name. -/
structure Places (D : DataW Unit) (l : List Sym) : Prop where
  has : ∀ nm : ByteArray, Maps.has D (keyL nm) = findB l nm
  at_ : ∀ (nm : ByteArray) (i : Nat), findL l nm = some i → D.atKey (keyL nm) (.lit (.int .i64 0)) = .lit (.int .i64 i)

theorem find_snoc (l : List Sym) (x : Sym) (nm : ByteArray) : findL (l ++ [x]) nm = match findL l nm with | some i => some i | none => if sameB x.name nm then some l.length else none := by
  unfold findL
  rw [List.findIdx?_append]
  cases List.findIdx? (fun y => sameB y.name nm) l with
  | some i => rfl
  | none =>
    cases h : sameB x.name nm <;> simp [h]

theorem Places.skip {D : DataW Unit} {l : List Sym} (h : Places D l) (x : Sym) (hf : findB l x.name = true) : Places D (l ++ [x]) := by
  have key : ∀ nm, findL (l ++ [x]) nm = findL l nm := by
    intro nm
    rw [find_snoc]
    cases hl : findL l nm with
    | some i => rfl
    | none =>
      cases hs : sameB x.name nm with
      | false => rfl
      | true =>
        have h1 := h.has nm
        have h2 := h.has x.name
        rw [keyL_eq hs, h1, hf] at h2
        rw [findB_none hl] at h2
        cases h2
  exact ⟨fun nm => by unfold findB; rw [key]; exact h.has nm, fun nm i hi => h.at_ nm i (by rw [← key]; exact hi)⟩

theorem Places.put {D : DataW Unit} {l : List Sym} (h : Places D l) (hD : IsMap D) (x : Sym) (hf : findB l x.name = false) : Places (D.put (keyL x.name) (.lit (.int .i64 l.length))) (l ++ [x]) := by
  have hk : WideAt.IsKeyLit (keyL x.name) := by simp [WideAt.IsKeyLit, keyL]
  refine ⟨fun nm => ?_, fun nm i hi => ?_⟩
  · unfold findB
    rw [find_snoc]
    cases hs : sameB x.name nm with
    | true =>
      rw [← keyL_eq hs, has_put_same hD hk]
      cases findL l nm <;> simp
    | false =>
      rw [has_put_other (fun e => keyL_ne hs e.symm), h.has nm]
      unfold findB
      cases findL l nm <;> simp
  · rw [find_snoc] at hi
    cases hs : sameB x.name nm with
    | true =>
      have hn : findL l nm = none := by
        cases hl : findL l nm with
        | none => rfl
        | some j =>
          have h1 := h.has nm
          have h2 := h.has x.name
          rw [keyL_eq hs, h1, hf, findB_some hl] at h2
          cases h2
      rw [hn, hs] at hi
      simp at hi
      rw [← keyL_eq hs, atKey_put_same hD hk, hi]
    | false =>
      rw [atKey_put_other (fun e => keyL_ne hs e.symm)]
      refine h.at_ nm i ?_
      cases hl : findL l nm with
      | some j => rw [hl] at hi; exact hi
      | none => rw [hl, hs] at hi; simp at hi

theorem law9 : Keyed Try.prog 9 := string_keyed Try.underlying9
theorem zero3 (w : World) : (zeroValue 3).run Try.prog w = .ok (.int .i64 0) w := by kernel_rfl
theorem make49 (w : World) (n : Int) : (Instr.makeMap 76 (some (.int .i64 n))).run Try.prog w = .ok (.map (some w.heap.size)) (w.alloc (.map #[] 0)) := by
  simp [Instr.makeMap, run_underlying Try.underlying76, asInt, go_sem]

set_option maxHeartbeats 400000 in
theorem places_any (a : Option Addr) (n cap : Nat) (l : List Sym) (w : World) (h : SigAt w a n l) (hr : n * 48 ≤ 140737488351232) :
    Calls Try.prog 39 #[.slice a n cap] w fun e w' => ∃ D : DataW Unit, e = .returned (.map (some w.heap.size)) ∧ w'.ownsMap Try.prog 9 (plainElem Try.prog 3) w.heap.size n D ∧ Places D l ∧ Below w.heap.size w w' := by
  have HS : Hid (SigAt w a n l) := h
  have hlen : Hid (n = l.length) := h.len
  clear h
  have hmm := make49
  have H0 : Hid (Places (.map [] : DataW Unit) (l.take 0)) := ⟨fun nm => by simp [Maps.has, findB, findL], fun nm i hi => by simp [findL] at hi⟩
  go_enter Try.func39, Try.ntmps39
  go_wp2
  go_loopw [4, 5, 6, 7, 13] (fun _ _ _ _ i w' => ∃ (k : Nat) (D : DataW Unit), k ≤ n ∧ i = .int .i64 k ∧ w'.ownsMap Try.prog 9 (plainElem Try.prog 3) w.heap.size k D ∧ Places D (l.take k) ∧ Below w.heap.size w w') (fun _ _ _ _ i _ => n - (intOf i).toNat)
  case atStart => exact ⟨0, .map [], Nat.zero_le _, rfl, World.ownsMap_made _ _ _ _, H0.out, (Below.refl _ _).alloc (Nat.le_refl _) _⟩
  case round =>
    obtain ⟨k, D, hk, rfl, hown, hpl, hb⟩ := hrel
    have HB : Hid (Below w.heap.size w wr) := hb
    have HP : Hid (Places D (l.take k)) := hpl
    clear hpl
    by_cases hlt : k < n
    · have hlk : k < l.length := by have := hlen.out; omega
      obtain ⟨b, off, rfl, hsym⟩ := HS.out.cells k hlk
      have hw := hsym.below hb
      have c0 := hw.name
      have c1 := hw.kind
      have c2 := hw.arity
      have c3 := hw.unit
      clear hw hsym hb
      have hkey : keyOf Try.prog 9 (.string l[k].name) = some (keyL l[k].name) := Go.WideMaps.keyOf_string_mk Try.underlying9 (HS.out.fits _ (List.getElem_mem hlk)).name
      have htk : Hid (l.take (k + 1) = l.take k ++ [l[k]]) := List.take_succ_eq_append_getElem hlk
      have hhas := HP.out.has l[k].name
      cases hf : findB (l.take k) l[k].name
      · rw [hf] at hhas
        have hnew : Hid (Places (D.put (keyL l[k].name) (.lit (.int .i64 k))) (l.take (k + 1))) := by
          have := HP.out.put hown.isMap l[k] hf
          rw [show (l.take k).length = k by simp; omega] at this
          show Places _ _
          rw [htk.out]; exact this
        go_wp2_with (first | (at_lookup; refine wpList_lookup_own_ok_int _ rfl _ _ 76 rfl 9 3 .i64 law9 Try.underlying76 Try.underlying3 (zero3 _) w.heap.size k D rfl (hown.alloc _) _ _ rfl hkey ?_; intro c hat hwc) | (at_mapUpdate; refine wpList_mapUpdate_own _ rfl _ _ _ 76 rfl 9 3 law9 Try.underlying76 _ w.heap.size k D rfl (hown.alloc _) (by unfold maxLen; omega) _ _ _ rfl rfl hkey _ [] (plainElem_int Try.underlying3 (WalkArith.wf_i64 (by omega))) ?_; intro w1 hown1 hgrow1))
        have HB2 : Hid (Below w.heap.size w w1) := (HB.out.alloc HB.out.size _).grown hgrow1 (by have := HB.out.size; simp; omega) (fun j hj => by cases hj; exact Nat.le_refl _)
        clear hgrow1
        go_wp2
        go_roundw
        case rel => exact ⟨k + 1, _, by omega, by go_num, hown1, hnew.out, HB2.out⟩
        case measure => simp [intOf]; omega
      · rw [hf] at hhas
        have hnew : Hid (Places D (l.take (k + 1))) := by
          show Places _ _
          rw [htk.out]; exact HP.out.skip l[k] hf
        go_wp2_with (first | (at_lookup; refine wpList_lookup_own_ok_int _ rfl _ _ 76 rfl 9 3 .i64 law9 Try.underlying76 Try.underlying3 (zero3 _) w.heap.size k D rfl (hown.alloc _) _ _ rfl hkey ?_; intro c hat hwc))
        go_roundw
        case rel => exact ⟨k + 1, D, by omega, by go_num, (hown.alloc _).mono (by omega), hnew.out, HB.out.alloc HB.out.size _⟩
        case measure => simp [intOf]; omega
    · have hkn : Hid (k = n) := by show k = n; omega
      have hown' : Hid (wr.ownsMap Try.prog 9 (plainElem Try.prog 3) w.heap.size n D) := hown.mono (by omega)
      have hpl : Hid (Places D l) := by
        have := HP.out
        rw [hkn.out, List.take_of_length_le (by have := hlen.out; omega)] at this
        exact this
      clear hown hb
      go_wp2
      go_ret
      exact ⟨D, rfl, hown'.out, hpl.out, HB.out⟩
end Go.Proofs.Ytplekhfnidhcoaa
