/- lives; slices of numbers and of texts; what is asked of one. -/
import Derived.Test.YtifolhfflbgfkaaDoorRjF
namespace Go.Proofs.YtifolhfflbgfkaaDoor
open Go.RowKit Go.Sort

theorem below_cell {w w' : World} (hb : Below w.heap.size w w') : ∀ p v, w.cell? p = some v → w'.cell? p = some v := fun p v h => by
  rw [hb.cell (World.block_lt_of_cell? w p h)]; exact h
/-- The slice with this address holds these numbers. -/
structure IntsAt (w : World) (a : Option Addr) (ns : List Int) : Prop where
  small : ns.length ≤ maxLen
  cells : ∀ i (h : i < ns.length), ∃ b o, a = some ⟨b, o, none⟩ ∧ w.cell? ⟨b, o + i, none⟩ = some (.int .i64 ns[i]) ∧ -9223372036854775808 ≤ ns[i] ∧ ns[i] ≤ 9223372036854775807
theorem IntsAt.below {w w' : World} {a : Option Addr} {ns : List Int} (h : IntsAt w a ns) (hb : Below w.heap.size w w') : IntsAt w' a ns :=
  ⟨h.small, fun i hi => let ⟨b, o, h1, h2, h3⟩ := h.cells i hi; ⟨b, o, h1, below_cell hb _ _ h2, h3⟩⟩
/-- The slice with this address holds these texts. -/
structure TextsAt (w : World) (a : Option Addr) (ss : List ByteArray) : Prop where
  small : ss.length ≤ maxLen
  cells : ∀ i (h : i < ss.length), ∃ b o, a = some ⟨b, o, none⟩ ∧ w.cell? ⟨b, o + i, none⟩ = some (.string ss[i]) ∧ ss[i].size ≤ maxLen
theorem TextsAt.below {w w' : World} {a : Option Addr} {ss : List ByteArray} (h : TextsAt w a ss) (hb : Below w.heap.size w w') : TextsAt w' a ss :=
  ⟨h.small, fun i hi => let ⟨b, o, h1, h2, h3⟩ := h.cells i hi; ⟨b, o, h1, below_cell hb _ _ h2, h3⟩⟩

theorem name120 : strB (nameL 120) = ⟨#[95, 49, 50, 48]⟩ := by
  have h : nameL 120 = [95, 49, 50, 48] := by
    unfold nameL
    rw [if_neg (by omega), itoa_nat (by omega), show (120 : Int).toNat = 120 from rfl, Lib.decDigits, dif_neg (by omega), Lib.decDigits_two (by omega) (by omega)]
    decide
  rw [h]; rfl
theorem num7 : numP [95, 55] = some 7 := by rw [num_same]; decide

set_option maxRecDepth 100000 in
set_option maxHeartbeats 2000000 in
theorem lives_any (w : World) (hs : Std w) : Calls Tryd.prog 4 #[] w fun e w' => e = .returned (.bool true) ∧ Below w.heap.size w w' := by
  have h7 : numV (numP (ByteArray.mk #[95, 55]).data.toList) = .tuple #[.int .i64 7, .bool true] := by
    show numV (numP [95, 55]) = _
    rw [num7]; rfl
  go_enter Tryd.func4, Tryd.ntmps4
  go_wp2_with (first
    | (go_at_call 5; refine (pname_any 120 (by omega) (by omega) _ hs).mono ?_; rintro e w' ⟨rfl, hb⟩; rw [name120]; have hs2 := hs.below hb hs.pos)
    | (go_at_call 6; refine (pnum_any _ (by decide) _ hs2).mono ?_; rintro e w'' ⟨rfl, hb2⟩; rw [h7]))
  go_ret
  exact ⟨rfl, hb.trans (hb2.mono hb.size)⟩

theorem cnt_case (n : Int) : (numP (nameL n) = some n ∧ ((strB (nameL n)).toList == (ByteArray.mk #[]).toList) = false) ∨ (nameL n = [] ∧ numP (nameL n) = none) := by
  by_cases h : n < 1 ∨ 99999999999 < n
  · have h1 : nameL n = [] := by unfold nameL; rw [if_pos h]
    exact .inr ⟨h1, by rw [h1]; decide⟩
  · refine .inl ⟨?_, ?_⟩
    · rw [num_same, num_name (by omega) (by omega), Option.map_some]
      congr 1; omega
    · have h1 : nameL n = 95 :: Lib.itoa n := by unfold nameL; rw [if_neg h]
      rw [beq_eq_false_iff_ne, Lib.toList_data, Lib.toList_data]
      show nameL n ≠ []
      rw [h1]; exact List.cons_ne_nil _ _
theorem num_back {l : List UInt8} {m : Int} (h : numP l = some m) : nameL m = l ∧ 1 ≤ m ∧ m ≤ 99999999999 := by
  rw [num_same] at h
  cases hn : numL l with
  | none => rw [hn] at h; cases h
  | some u =>
    rw [hn, Option.map_some, Option.some.injEq] at h
    subst h
    obtain ⟨h1, h2, h3⟩ := name_num hn
    exact ⟨h1, by omega, by omega⟩
end Go.Proofs.YtifolhfflbgfkaaDoor
