/- What rightArity, rightUnit and checkSymbol answer. -/
import Derived.Test.YtpngaeabkmbefaaFind
namespace Go.Proofs.Ytpngaeabkmbefaa
open Go.RowKit

set_option maxHeartbeats 400000 in
theorem arity_any (x : Sym) (w : World) : Calls Try.prog 42 #[x.val] w fun e w' => e = .returned (.bool (arityB x)) ∧ Below w.heap.size w w' := by
  unfold Sym.val
  cases hk : (x.kind == 1)
  · have hk' : Hid (x.kind ≠ 1) := by show _ ≠ _; simpa using hk
    go_enter Try.func42, Try.ntmps42
    go_wp2
    go_ret
    exact ⟨by have := hk'.out; simp [arityB, this]; rfl, (Below.refl _ _).alloc (Nat.le_refl _) _⟩
  · have hk' : Hid (x.kind = 1) := by show _ = _; simpa using hk
    by_cases h0 : 0 ≤ x.arity
    · go_enter Try.func42, Try.ntmps42
      go_wp2
      go_ret
      exact ⟨by have := hk'.out; simp [arityB, this, h0], (Below.refl _ _).alloc (Nat.le_refl _) _⟩
    · go_enter Try.func42, Try.ntmps42
      go_wp2
      go_ret
      exact ⟨by have := hk'.out; simp [arityB, this]; omega, (Below.refl _ _).alloc (Nat.le_refl _) _⟩

def unitB2 (l : List Sym) (x : Sym) : Bool := if x.kind = 3 then l.any (fun y => isUnit x y && emptyB y.unit) else emptyB x.unit
theorem unitB2_not {l : List Sym} {x : Sym} (hk : x.kind ≠ 3) : unitB2 l x = emptyB x.unit := by simp [unitB2, hk]
theorem unitB2_hit {l : List Sym} {x : Sym} (hk : x.kind = 3) {k : Nat} (hlk : k < l.length) (h : (isUnit x l[k] && emptyB l[k].unit) = true) : unitB2 l x = true := by
  unfold unitB2
  rw [if_pos hk, List.any_eq_true]
  exact ⟨l[k], List.getElem_mem hlk, h⟩
theorem unitB2_miss {l : List Sym} {x : Sym} (hk : x.kind = 3) (h : ∀ j (hj : j < l.length), (isUnit x l[j] && emptyB l[j].unit) = false) : unitB2 l x = false := by
  unfold unitB2
  rw [if_pos hk, List.any_eq_false]
  intro y hy
  obtain ⟨j, hj, rfl⟩ := List.getElem_of_mem hy
  rw [h j hj]; simp

set_option maxHeartbeats 400000 in
theorem unit_any (a : Option Addr) (n cap : Nat) (l : List Sym) (x : Sym) (w : World) (h : SigAt w a n l) :
    Calls Try.prog 43 #[.slice a n cap, x.val] w fun e w' => e = .returned (.bool (unitB2 l x)) ∧ Below w.heap.size w w' := by
  obtain ⟨hl, hm, hcells, _⟩ := h
  unfold maxLen at hm
  have HL : Hid (n = l.length) := hl
  clear hl
  have HC : Hid (∀ i (h : i < l.length), ∃ b off, a = some ⟨b, off, none⟩ ∧ SymAt w b (off + i * 4) l[i]) := hcells
  clear hcells
  unfold Sym.val
  cases hk : (x.kind != 3)
  · have hk' : Hid (x.kind = 3) := by show _ = _; simpa using hk
    have hbw : Below w.heap.size w ((w.alloc (.cells #[.string x.name, .int .i64 x.kind, .int .i64 x.arity, .string x.unit] 42)).alloc (.cells #[.string x.unit, .int .i64 1, .int .i64 0, .string ⟨#[]⟩] 42)) := ((Below.refl _ _).alloc (Nat.le_refl _) _).alloc (by simp) _
    go_enter Try.func43, Try.ntmps43
    go_wp2
    go_loopw [7, 19] (fun _ i w' => ∃ k : Nat, k ≤ n ∧ i = .int .i64 k ∧ Below (w.heap.size + 2) ((w.alloc (.cells #[.string x.name, .int .i64 x.kind, .int .i64 x.arity, .string x.unit] 42)).alloc (.cells #[.string x.unit, .int .i64 1, .int .i64 0, .string ⟨#[]⟩] 42)) w' ∧ ∀ j (hj : j < l.length), j < k → (isUnit x l[j] && emptyB l[j].unit) = false) (fun _ i _ => n - (intOf i).toNat)
    case atStart => exact ⟨0, Nat.zero_le _, rfl, Below.refl _ _, fun j _ h => absurd h (by omega)⟩
    case round =>
      obtain ⟨k, hk, rfl, hb, hno⟩ := hrel
      have HN : Hid (∀ j (hj : j < l.length), j < k → (isUnit x l[j] && emptyB l[j].unit) = false) := hno
      clear hno
      have hb2 := hbw.trans (hb.mono (by omega))
      have hsz : w.heap.size + 1 < wr.heap.size := by have := hb.size; simp at this; omega
      have u0 : wr.cell? ⟨w.heap.size + 1, 0, none⟩ = some (.string x.unit) := by rw [hb.cell (p := ⟨w.heap.size + 1, 0, none⟩) (by simp)]; simp [go_sem]
      have u1 : wr.cell? ⟨w.heap.size + 1, 1, none⟩ = some (.int .i64 1) := by rw [hb.cell (p := ⟨w.heap.size + 1, 1, none⟩) (by simp)]; simp [go_sem]
      have u2 : wr.cell? ⟨w.heap.size + 1, 2, none⟩ = some (.int .i64 0) := by rw [hb.cell (p := ⟨w.heap.size + 1, 2, none⟩) (by simp)]; simp [go_sem]
      have u3 : wr.cell? ⟨w.heap.size + 1, 3, none⟩ = some (.string ⟨#[]⟩) := by rw [hb.cell (p := ⟨w.heap.size + 1, 3, none⟩) (by simp)]; simp [go_sem]
      by_cases hlt : k < n
      · have hlk : k < l.length := by have := HL.out; omega
        obtain ⟨b, off, rfl, hsym⟩ := HC.out k hlk
        have hw := hsym.below hb2
        have c0 := hw.name
        have c1 := hw.kind
        have c2 := hw.arity
        have c3 := hw.unit
        clear hw hsym
        have HB : Hid (Below (w.heap.size + 2) ((w.alloc (.cells #[.string x.name, .int .i64 x.kind, .int .i64 x.arity, .string x.unit] 42)).alloc (.cells #[.string x.unit, .int .i64 1, .int .i64 0, .string ⟨#[]⟩] 42)) wr) := hb
        have HB2 : Hid (Below w.heap.size w wr) := hb2
        clear hb hb2 hbw
        go_wp2
        · have hf : unitB2 l x = true := unitB2_hit hk'.out hlk (by simp [isUnit, sameB, emptyB, *])
          go_ret
          exact ⟨by rw [hf]; rfl, HB2.out.alloc HB2.out.size _⟩
        all_goals
          have hf : (isUnit x l[k] && emptyB l[k].unit) = false := by simp [isUnit, sameB, emptyB, *]
          go_roundw
          case rel => exact ⟨k + 1, by omega, by go_num, HB.out.alloc (by omega) _, fun j hj h => by
            rcases Nat.lt_succ_iff_lt_or_eq.1 h with h | rfl
            · exact HN.out j hj h
            · exact hf⟩
          case measure => simp [intOf]; omega
      · have hf : Hid (unitB2 l x = false) := unitB2_miss hk'.out fun j hj => HN.out j hj (by have := HL.out; omega)
        clear u0 u1 u2 u3
        go_wp2
        go_ret
        exact ⟨by rw [hf.out]; rfl, hb2⟩
  · have hk' : Hid (x.kind ≠ 3) := by show _ ≠ _; simpa using hk
    go_enter Try.func43, Try.ntmps43
    go_wp2
    go_ret
    exact ⟨by rw [unitB2_not hk'.out]; rfl, (Below.refl _ _).alloc (Nat.le_refl _) _⟩
end Go.Proofs.Ytpngaeabkmbefaa
