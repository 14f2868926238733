/- What Add does to the sum, plainly. -/
import Derived.Test.YtlbmamkkbpjafabBReads
namespace Go.Proofs.Ytlbmamkkbpjafab
open Go.RowKit Go.Deep

theorem sumN_erase (l : List It) (i : Nat) (hi : i < l.length) : sumN (l.eraseIdx i) = sumN l - l[i].2 := by
  have h : sumN l = sumN (l.take i) + (l[i].2 + sumN (l.drop (i + 1))) := by
    rw [← sumN_cons, ← List.drop_eq_getElem_cons hi, ← sumN_app, List.take_append_drop]
  rw [List.eraseIdx_eq_take_drop_succ, sumN_app]
  omega
theorem sumN_set (l : List It) (i : Nat) (hi : i < l.length) (y : It) : sumN (l.set i y) = sumN l - l[i].2 + y.2 := by
  have h : sumN l = sumN (l.take i) + (l[i].2 + sumN (l.drop (i + 1))) := by
    rw [← sumN_cons, ← List.drop_eq_getElem_cons hi, ← sumN_app, List.take_append_drop]
  rw [List.set_eq_take_append_cons_drop, if_pos hi, sumN_app, sumN_cons]
  omega
theorem sumN_ins (l : List It) (i : Nat) (y : It) : sumN (l.take i ++ y :: l.drop i) = sumN l + y.2 := by
  have h : sumN l = sumN (l.take i) + sumN (l.drop i) := by rw [← sumN_app, List.take_append_drop]
  rw [sumN_app, sumN_cons]
  omega
theorem addP_sum (x : Th) (n : Int) (l : List It) : sumN (addP x n l).2 = if (addP x n l).1 = true then sumN l + n else sumN l := by
  unfold addP
  split
  · rename_i h
    subst h
    simp
  · rename_i hn0
    split
    · rfl
    · split
      · rename_i hz
        dsimp only
        rw [if_pos rfl]
        cases hth : thereB x.1 l with
        | false =>
          have hc0 : cntK x.1 l = 0 := by unfold cntK; rw [hth]; rfl
          omega
        | true =>
          obtain ⟨hp, _⟩ := there_lt hth
          rw [sumN_erase l _ hp, ← cnt_there hth hp]
          omega
      · split
        · rename_i hth
          obtain ⟨hp, _⟩ := there_lt hth
          dsimp only
          rw [if_pos rfl, List.getElem?_eq_getElem hp]
          dsimp only
          rw [sumN_set l _ hp, ← cnt_there hth hp]
          show sumN l - cntK x.1 l + (cntK x.1 l + n) = _
          omega
        · rename_i hth
          have hc0 : cntK x.1 l = 0 := by unfold cntK; rw [if_neg hth]
          dsimp only
          rw [if_pos rfl, sumN_ins]
          show sumN l + (cntK x.1 l + n) = _
          omega
/-- A row of things in memory. -/
structure ThsAt (w : World) (p : Option Addr) (n : Nat) (l : List Th) : Prop where
  len : n = l.length
  small : n ≤ maxLen
  cells : ∀ i (h : i < l.length), ∃ b off, p = some ⟨b, off, none⟩ ∧ w.cell? ⟨b, off + i * 2, none⟩ = some (.int .i64 l[i].1) ∧ w.cell? ⟨b, off + i * 2 + 1, none⟩ = some (.int .i64 l[i].2)
theorem ThsAt.below {w w' : World} {p : Option Addr} {n : Nat} {l : List Th} (h : ThsAt w p n l) (hb : Below w.heap.size w w') : ThsAt w' p n l :=
  ⟨h.len, h.small, fun i hi => by
    obtain ⟨b, o, h1, h2, h3⟩ := h.cells i hi
    exact ⟨b, o, h1, below_cell hb _ _ h2, below_cell hb _ _ h3⟩⟩
theorem bag_apart {W : World} {base B : Nat} {l : List It} {p : Option Addr} {c : Nat} (h : BagAt base B W l p c) {Y : Nat} {cs : Array Value} {t : TypeId} (hY : W.heap[Y]? = some (.cells cs t (0, 0))) (h1 : t ≠ 42) (h2 : t ≠ 32) : ¬ (Y = B ∨ p.map Addr.block = some Y) := by
  rintro (rfl | he)
  · have e : some (Obj.cells #[ordV, .slice p l.length c] 42 (0, 0)) = some (Obj.cells cs t (0, 0)) := h.1.symm.trans hY
    injection e with e
    injection e with _ e _
    exact h1 e.symm
  · rcases h.2.1.2 with ⟨hv, _⟩ | ⟨g, cap, cur, hv, _, hg, _⟩
    · rw [(Value.slice.inj hv).1] at he
      cases he
    · rw [(Value.slice.inj hv).1] at he
      have e2 : some g = some Y := he
      rw [Option.some.inj e2] at hg
      have e := hg.symm.trans hY
      injection e with e
      injection e with _ e _
      exact h2 e.symm
end Go.Proofs.Ytlbmamkkbpjafab
