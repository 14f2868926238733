/- What Check of package sig answers. -/
import Derived.Test.YtpngaeabkmbefaaChkPlain
import Derived.Test.YtpngaeabkmbefaaLater
namespace Go.Proofs.Ytpngaeabkmbefaa
open Go.RowKit

def CheckRet (l : List Sym) (e : Ending) : Prop := e = .returned (.tuple #[.int .i64 (checkE l), .int .i64 (checkP l)])

set_option maxHeartbeats 1000000 in
theorem scheck_any (a : Option Addr) (n cap : Nat) (hcap : n ≤ cap) (l : List Sym) (w : World) (h : SigAt w a n l) :
    Calls Try.prog 15 #[.slice a n cap] w fun e w' => CheckRet l e ∧ Below w.heap.size w w' := by
  have HS : Hid (SigAt w a n l) := h
  have hm := h.small
  unfold maxLen at hm
  clear h
  by_cases h16 : (16 : Int) < n
  · have hl16 : Hid (16 < l.length) := by show _ < _; have := HS.out.len; omega
    go_enter Try.func15, Try.ntmps15
    go_wp2
    go_ret2
    exact ⟨by have := hl16.out; simp [CheckRet, checkE, checkP, this], Below.refl _ _⟩
  · have hl16 : Hid (¬ 16 < l.length) := by show ¬ _; have := HS.out.len; omega
    go_enter Try.func15, Try.ntmps15
    go_wp2
    go_loopw [4, 5, 6, 12] (fun _ _ _ i w' => ∃ k : Nat, k ≤ n ∧ i = .int .i64 k ∧ Below w.heap.size w w' ∧ ∀ j, j < k → errAt l j = 0) (fun _ _ _ i _ => n - (intOf i).toNat)
    case atStart => exact ⟨0, Nat.zero_le _, rfl, Below.refl _ _, fun j h => absurd h (by omega)⟩
    case round =>
      obtain ⟨k, hk, rfl, hb, hno⟩ := hrel
      have HN : Hid (∀ j, j < k → errAt l j = 0) := hno
      have HB : Hid (Below w.heap.size w wr) := hb
      clear hno
      by_cases hlt : k < n
      · have hlk : k < l.length := by have := HS.out.len; omega
        obtain ⟨b, off, rfl, hsym⟩ := HS.out.cells k hlk
        have hw := hsym.below hb
        have c0 := hw.name
        have c1 := hw.kind
        have c2 := hw.arity
        have c3 := hw.unit
        clear hw hsym hb
        have hk0 : (0 : Int) ≤ (k : Int) := by omega
        have hkn : (k : Int) ≤ (cap : Int) := by omega
        go_wp2
        have HC : Hid (∀ W, SigAt W (some ⟨b, off, none⟩) k (l.take k) → Calls Try.prog 36 #[.slice (some ⟨b, off, none⟩) k cap, l[k].val] W fun e w' => e = .returned (.int .i64 (errAt l k)) ∧ Below W.heap.size W w') := by
          intro W hW
          have := checkSymbol_any (some ⟨b, off, none⟩) k cap (l.take k) l[k] W hW
          rw [symErr2_eq hlk HN.out] at this
          exact this
        have hne := later_some (wr.alloc (.cells #[.string l[k].name, .int .i64 l[k].kind, .int .i64 l[k].arity, .string l[k].unit] 42))
        have d0 := later_cell (w := wr.alloc (.cells #[.string l[k].name, .int .i64 l[k].kind, .int .i64 l[k].arity, .string l[k].unit] 42)) (p := ⟨wr.heap.size, 0, none⟩) (v := .string l[k].name) (by simp [go_sem])
        have d1 := later_cell (w := wr.alloc (.cells #[.string l[k].name, .int .i64 l[k].kind, .int .i64 l[k].arity, .string l[k].unit] 42)) (p := ⟨wr.heap.size, 1, none⟩) (v := .int .i64 l[k].kind) (by simp [go_sem])
        have d2 := later_cell (w := wr.alloc (.cells #[.string l[k].name, .int .i64 l[k].kind, .int .i64 l[k].arity, .string l[k].unit] 42)) (p := ⟨wr.heap.size, 2, none⟩) (v := .int .i64 l[k].arity) (by simp [go_sem])
        have d3 := later_cell (w := wr.alloc (.cells #[.string l[k].name, .int .i64 l[k].kind, .int .i64 l[k].arity, .string l[k].unit] 42)) (p := ⟨wr.heap.size, 3, none⟩) (v := .string l[k].unit) (by simp [go_sem])
        refine wp_region_later (by kernel_rfl) (by kernel_rfl) ?_
        repeat (go_big_quiet_step ((refine calls_later (HC.out _ ?_); exact (((HS.out.take k (by omega)).below HB.out).below ((Below.refl _ _).alloc (Nat.le_refl _) _)).below (Later.below _))))
        refine wpQuiet_nil ?_
        intro _ hw'
        obtain ⟨b2, hw''⟩ := hw'
        subst hw''
        have HB2 : Hid (Below w.heap.size w b2.now) := (HB.out.alloc HB.out.size _).trans (b2.below.mono (by have := HB.out.size; simp; omega))
        clear d0 d1 d2 d3
        cases he : (errAt l k != 0)
        · have he' : Hid (errAt l k = 0) := by show _ = _; simpa using he
          go_wp2
          go_roundw
          case rel => exact ⟨k + 1, by omega, by go_num, HB2.out, fun j hj => by
            rcases Nat.lt_succ_iff_lt_or_eq.1 hj with hj | rfl
            · exact HN.out j hj
            · exact he'.out⟩
          case measure => simp [intOf]; omega
        · have hf : Hid (firstErr l = some k) := firstErr_hit hlk (by simpa using he) HN.out
          go_wp2
          go_ret2
          exact ⟨by unfold CheckRet; rw [checkE_hit hl16.out hf.out, checkP_hit hl16.out hf.out]; rfl, HB2.out⟩
      · have hf : Hid (firstErr l = none) := firstErr_miss fun j hj => HN.out j (by have := HS.out.len; omega)
        go_wp2
        go_ret2
        exact ⟨by unfold CheckRet; rw [checkE_miss hl16.out hf.out, checkP_miss hl16.out hf.out]; rfl, HB.out⟩
end Go.Proofs.Ytpngaeabkmbefaa
