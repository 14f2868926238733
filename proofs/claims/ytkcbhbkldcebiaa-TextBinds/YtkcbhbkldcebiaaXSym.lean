/- What Find of package sig and the reader's symbol answer; what reading a term is, as a function of text and place. -/
import Derived.Test.YtkcbhbkldcebiaaXNext
import Derived.Test.YtkcbhbkldcebiaaFind
import Derived.Test.YtkcbhbkldcebiaaTPath
namespace Go.Proofs.Ytkcbhbkldcebiaa
open Go.RowKit Go.Deep

set_option maxHeartbeats 400000 in
theorem sfind_any (a : Option Addr) (n cap : Nat) (l : List Sym) (nm : ByteArray) (w : World) (h : SigAt w a n l) :
    Calls Try.prog 83 #[.slice a n cap, .string nm] w fun e w' => FindRet l nm e ∧ Below w.heap.size w w' := by
  obtain ⟨hl, hm, hcells, _⟩ := h
  unfold maxLen at hm
  have HL : Hid (n = l.length) := hl
  clear hl
  have HC : Hid (∀ i (h : i < l.length), ∃ b off, a = some ⟨b, off, none⟩ ∧ SymAt w b (off + i * 4) l[i]) := hcells
  clear hcells
  go_enter Try.func83, Try.ntmps83
  go_wp2
  go_loopw [6, 7, 10] (fun _ _ i w' => ∃ k : Nat, k ≤ n ∧ i = .int .i64 k ∧ Below w.heap.size w w' ∧ ∀ j (hj : j < l.length), j < k → sameB l[j].name nm = false) (fun _ _ i _ => n - (intOf i).toNat)
  case atStart => exact ⟨0, Nat.zero_le _, rfl, Below.refl _ _, fun j _ h => absurd h (by omega)⟩
  case round =>
    obtain ⟨k, hk, rfl, hb, hno⟩ := hrel
    have HN : Hid (∀ j (hj : j < l.length), j < k → sameB l[j].name nm = false) := hno
    clear hno
    by_cases hlt : k < n
    · have hlk : k < l.length := by have := HL.out; omega
      obtain ⟨b, off, rfl, hsym⟩ := HC.out k hlk
      have hw := hsym.below hb
      have c0 := hw.name
      have c1 := hw.kind
      have c2 := hw.arity
      have c3 := hw.unit
      clear hw hsym
      cases ht : (l[k].name.toList == nm.toList)
      · go_wp2
        go_roundw
        case rel => exact ⟨k + 1, by omega, by go_num, hb.alloc hb.size _, fun j hj h => by
          rcases Nat.lt_succ_iff_lt_or_eq.1 h with h | rfl
          · exact HN.out j hj h
          · exact ht⟩
        case measure => simp [intOf]; omega
      · have hf : Hid (findL l nm = some k) := find_hit hlk ht HN.out
        go_wp2
        go_ret2
        exact ⟨by unfold FindRet; rw [findI_some hf.out, findB_some hf.out]; rfl, hb.alloc hb.size _⟩
    · have hf : Hid (findL l nm = none) := find_miss fun j hj => HN.out j hj (by have := HL.out; omega)
      go_wp2
      go_ret2
      exact ⟨by unfold FindRet; rw [findI_none hf.out, findB_none hf.out]; rfl, hb⟩

set_option maxRecDepth 100000 in
set_option maxHeartbeats 2000000 in
theorem symbol_rd (B : Nat) (S : Option Addr) (n cap : Nat) (l : List Sym) (tv : Value) (s : ByteArray) (k : Nat) (x : Wd) (w : World) (hB : RdBox w B (.slice S n cap) s k tv) (hS : SigAt w S n l) :
    Calls Try.prog 74 #[.pointer (some ⟨B, 0, none⟩), x.val] w fun e w' => (if findB l x.text = true then e = .returned (.int .i64 (findI l x.text)) else e = faultP 53 x.place) ∧ Below w.heap.size w w' := by
  obtain ⟨wk, wt, wp⟩ := x
  have HB := hid hB
  have HS := hid hS
  clear hB hS
  unfold Wd.val
  dsimp only
  have B0 := alloc_below0 w (.cells #[.int .i64 wk, .string wt, .int .i64 wp] 71)
  have HB0 := hid (HB.out.below B0)
  have HL := hid B0
  have W0 : Hid (WdBox (w.alloc (.cells #[.int .i64 wk, .string wt, .int .i64 wp] 71)) w.heap.size ⟨wk, wt, wp⟩) := World.alloc_heap_new w _
  obtain ⟨fb, hfb⟩ : ∃ fb, findB l wt = fb := ⟨_, rfl⟩
  obtain ⟨fi, hfi⟩ : ∃ fi, findI l wt = fi := ⟨_, rfl⟩
  rw [hfb, hfi]
  have HN : Hid (∀ W, Below w.heap.size w W → Calls Try.prog 83 #[.slice S n cap, .string wt] W fun e w' => e = .returned (.tuple #[.int .i64 fi, .bool fb]) ∧ Below W.heap.size W w') := hid fun W hW => by
    have := sfind_any S n cap l wt W (HS.out.below hW)
    unfold FindRet at this
    rw [hfb, hfi] at this
    exact this
  clear B0 HB hfb hfi HS
  go_enter Try.func74, Try.ntmps74
  go_upto_region 1 with fail
  generalize w.alloc (.cells #[.int .i64 wk, .string wt, .int .i64 wp] 71) = V0 at HB0 HL W0 ⊢
  have hne := later_some V0
  have d0 := later_cell HB0.out.c0
  have d1 := later_cell W0.out.k1
  have d2 := later_cell W0.out.k2
  have HN1 : Hid (∀ W, Below V0.heap.size V0 W → Calls Try.prog 83 #[.slice S n cap, .string wt] W fun e w' => e = .returned (.tuple #[.int .i64 fi, .bool fb]) ∧ Below W.heap.size W w') := hid fun W hW => HN.out W (HL.out.trans (hW.mono HL.out.size))
  clear HN
  refine wp_region_later (by kernel_rfl) (by kernel_rfl) ?_
  repeat (go_big_quiet_step (first | (go_at_call 83; with_reducible refine calls_later (HN1.out _ ?_); exact Later.below _) | fail))
  refine wpQuiet_nil ?_
  intro _ hw'
  obtain ⟨b3, hw''⟩ := hw'
  subst hw''
  have f2 := d2 b3
  clear d0 d1 d2 hne
  cases fb with
  | true =>
    go_wp2
    go_ret
    exact ⟨rfl, HL.out.trans (b3.below.mono HL.out.size)⟩
  | false =>
    go_wp2
    exact ⟨rfl, ⟨rfl, HL.out.trans (b3.below.mono HL.out.size)⟩⟩

/-- What reading answers: mode false: a TERM, one tree without a sibling; mode true: what stands behind an argument: the others, as siblings, and the bracket. What is wrong is told with its place. The fuel: more than the bytes that are left. -/
def rdF (s : ByteArray) (l : List Sym) : Nat → Bool → Nat → Except (Int × Nat) (Fo × Nat)
  | 0, _, _ => .error (0, 0)
  | f + 1, false, k => match nextP s k with
    | .error e => .error e
    | .ok r =>
      if r.word.kind = 2 then .ok (.node 0 0 (r.word.text, 0) .nil .nil, r.to)
      else if r.word.kind = 1 then
        if findB l r.word.text then match passP s r.to 3 with
          | .error e => .error e
          | .ok (false, k1) => .ok (.node 0 0 (⟨#[]⟩, findI l r.word.text) .nil .nil, k1)
          | .ok (true, k1) => match rdF s l f false k1 with
            | .error e => .error e
            | .ok (.nil, _) => .error (0, 0)
            | .ok (.node _ _ x m _, k2) => match rdF s l f true k2 with
              | .error e => .error e
              | .ok (F, k3) => .ok (.node 0 0 (⟨#[]⟩, findI l r.word.text) (.node 0 0 x m F) .nil, k3)
        else .error (53, r.word.place)
      else .error (52, r.word.place)
  | f + 1, true, k => match passP s k 5 with
    | .error e => .error e
    | .ok (true, k1) => match rdF s l f false k1 with
      | .error e => .error e
      | .ok (.nil, _) => .error (0, 0)
      | .ok (.node _ _ x m _, k2) => match rdF s l f true k2 with
        | .error e => .error e
        | .ok (F, k3) => .ok (.node 0 0 x m F, k3)
    | .ok (false, _) => match wantP s k 4 with
      | .error e => .error e
      | .ok r => .ok (.nil, r.to)
/-- The whole: a term, nothing behind it, and terms' Check. -/
def termR (s : ByteArray) (l : List Sym) : Except (Int × Nat) Tn :=
  if 800 < s.size then .error (55, 0)
  else match rdF s l (s.size + 1) false 0 with
    | .error e => .error e
    | .ok (.nil, _) => .error (0, 0)
    | .ok (.node _ _ x m _, k) => match endR s k with
      | .error e => .error e
      | .ok _ => .ok (x, m)
end Go.Proofs.Ytkcbhbkldcebiaa
