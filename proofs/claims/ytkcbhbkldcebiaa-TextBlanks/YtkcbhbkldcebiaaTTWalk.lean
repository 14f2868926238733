/- How the statement on Term goes: of each text both answer the same. -/
import Derived.Test.YtkcbhbkldcebiaaYDoc
import Derived.Test.YtkcbhbkldcebiaaZHead
import Derived.Test.YtkcbhbkldcebiaaSOpen
namespace Go.Proofs.Ytkcbhbkldcebiaa
open Go.RowKit Go.Deep

/-- An answer as three values. -/
def resV : Except (Int × Nat) Tn → Tn × Int × Nat
  | .error q => (((⟨#[]⟩, 0), .nil), q.1, q.2)
  | .ok t => (t, 0, 0)
def TupEnd (w : World) (x : ByteArray × Int) (m : Fo) (er : Int) (p : Nat) (e : Ending) (w' : World) : Prop := ∃ a c, e = .returned (.tuple #[.agg #[.string x.1, .int .i64 x.2, .slice a (lenF m) c], .int .i64 er, .int .i64 p]) ∧ TmAt w' x a c m ∧ Below w.heap.size w w'
theorem tup_of {w w' : World} {res : Except (Int × Nat) Tn} {e : Ending} (h : FullEnd w res e w') {x : ByteArray × Int} {m : Fo} {er : Int} {p : Nat} (hr : resV res = ((x, m), er, p)) : TupEnd w x m er p e w' := by
  cases res with
  | error q =>
    cases hr
    obtain ⟨rfl, hb⟩ := h
    exact ⟨none, 0, rfl, ⟨⟨by decide, by decide, by decide, by decide⟩, .inl rfl⟩, hb⟩
  | ok t =>
    cases hr
    obtain ⟨⟨a, c, rfl, ho⟩, hb⟩ := h
    exact ⟨a, c, rfl, ho.tm, hb⟩

theorem StrsAt.below {w w' : World} {a : Option Addr} {n : Nat} {ss : List ByteArray} (h : StrsAt w a n ss) (hb : Below w.heap.size w w') : StrsAt w' a n ss :=
  ⟨h.len, h.small, fun i hi => let ⟨b, off, h1, h2⟩ := h.cells i hi; ⟨b, off, h1, below_cell hb _ _ h2⟩, h.fits⟩

set_option maxRecDepth 100000 in
set_option maxHeartbeats 4000000 in
theorem textTerms_walk (S : Option Addr) (n cap : Nat) (l : List Sym) (a : Option Addr) (len c : Nat) (ss : List ByteArray) (w : World) (hS : SigAt w S n l) (hA : StrsAt w a len ss) :
    Calls Try.prog 3 #[.slice S n cap, .slice a len c] w fun e w' => e = .returned (.bool true) ∧ Below w.heap.size w w' := by
  have HS := hid hS; have HA := hid hA
  have hlm := hA.small
  unfold maxLen at hlm
  clear hS hA
  go_enter Try.func3, Try.ntmps3
  go_wp2_with fail
  refine (head_any w).mono ?_
  rintro e w1 ⟨rfl, hb1⟩
  have L1 := hid hb1
  clear hb1
  go_wp2_with fail
  go_loopw [6] (fun ov wr => ∃ i : Nat, ov = .int .i64 i ∧ i ≤ len ∧ Below w.heap.size w wr) (fun ov _ => len - (intOf ov).toNat)
  case atStart => exact ⟨0, rfl, Nat.zero_le _, L1.out⟩
  case round =>
    obtain ⟨i, rfl, hi, hb⟩ := hrel
    have HB := hid hb
    clear hb
    by_cases hlt : i < len
    · have hil : i < ss.length := by have := HA.out.len; omega
      obtain ⟨bb, off, rfl, hcell⟩ := HA.out.cells i hil
      have hfit : ss[i].size ≤ maxLen := HA.out.fits _ (List.getElem_mem hil)
      obtain ⟨s, hs⟩ : ∃ s, ss[i] = s := ⟨_, rfl⟩
      rw [hs] at hcell hfit
      obtain ⟨x, m, er, p, hv⟩ : ∃ (x : ByteArray × Int) (m : Fo) (er : Int) (p : Nat), resV (fullR s l) = ((x, m), er, p) := ⟨_, _, _, _, rfl⟩
      have HT : Hid (∀ W, Below w.heap.size w W → Calls Try.prog 10 #[.slice S n cap, .string s] W fun e w' => TupEnd W x m er p e w') := hid fun W hW => (term_any S n cap l s W (HS.out.below hW)).mono (fun _ _ h => tup_of h hv)
      have HD : Hid (∀ W, Below w.heap.size w W → Calls Try.prog 11 #[.slice S n cap, .string s] W fun e w' => TupEnd W x m er p e w') := hid fun W hW => (rdoc_any S n cap l s W (HS.out.below hW) hfit).mono (fun _ _ h => tup_of h hv)
      clear hv hs hfit
      have q0 := below_cell HB.out _ _ hcell
      go_wp2_with fail
      refine (HT.out wr HB.out).mono ?_
      rintro e w2 ⟨ta, tc, rfl, ht2, hb2⟩
      have B2 := alloc_below0 w2 (.cells #[.string x.1, .int .i64 x.2, .slice ta (lenF m) tc] 28)
      have X2 : Hid (XBox (w2.alloc (.cells #[.string x.1, .int .i64 x.2, .slice ta (lenF m) tc] 28)) w2.heap.size x (.slice ta (lenF m) tc)) := World.alloc_heap_new w2 _
      have T2 := hid (ht2.below B2)
      have L2 : Hid (Below w.heap.size w (w2.alloc (.cells #[.string x.1, .int .i64 x.2, .slice ta (lenF m) tc] 28))) := hid ((HB.out.trans (hb2.mono HB.out.size)).alloc (HB.out.trans (hb2.mono HB.out.size)).size _)
      clear ht2 hb2 B2 q0
      have q2 := below_cell L2.out _ _ hcell
      go_wp2_with fail
      generalize w2.alloc (.cells #[.string x.1, .int .i64 x.2, .slice ta (lenF m) tc] 28) = V2 at X2 T2 L2 q2 ⊢
      refine (HD.out V2 L2.out).mono ?_
      rintro e w3 ⟨ua, uc, rfl, ht3, hb3⟩
      have B3 := alloc_below0 w3 (.cells #[.string x.1, .int .i64 x.2, .slice ua (lenF m) uc] 28)
      have X3 := ((X2.out.below hb3).below B3)
      have Y3 : XBox (w3.alloc (.cells #[.string x.1, .int .i64 x.2, .slice ua (lenF m) uc] 28)) w3.heap.size x (.slice ua (lenF m) uc) := World.alloc_heap_new w3 _
      have T3 := hid ((T2.out.below hb3).below B3)
      have U3 := hid (ht3.below B3)
      have L3 : Hid (Below w.heap.size w (w3.alloc (.cells #[.string x.1, .int .i64 x.2, .slice ua (lenF m) uc] 28))) := hid ((L2.out.trans (hb3.mono L2.out.size)).alloc (L2.out.trans (hb3.mono L2.out.size)).size _)
      have x0 := X3.c0; have x1 := X3.c1; have x2 := X3.c2
      have y0 := Y3.c0; have y1 := Y3.c1; have y2 := Y3.c2
      clear ht3 hb3 B3 X3 Y3 q2 X2 T2 L2
      go_wp2_with fail
      generalize w3.alloc (.cells #[.string x.1, .int .i64 x.2, .slice ua (lenF m) uc] 28) = V3 at T3 U3 L3 x0 x1 x2 y0 y1 y2 ⊢
      refine (exact_any x m ta ua tc uc V3 T3.out U3.out).mono ?_
      rintro e w4 ⟨rfl, hb4⟩
      have L4 := hid (L3.out.trans (hb4.mono L3.out.size))
      clear hb4 x0 x1 x2 y0 y1 y2
      go_wp2
      go_roundw
      case rel => exact ⟨i + 1, by go_num, by omega, L4.out⟩
      case measure => simp [intOf]; omega
    · go_wp2
      go_ret
      exact ⟨rfl, HB.out⟩
end Go.Proofs.Ytkcbhbkldcebiaa
